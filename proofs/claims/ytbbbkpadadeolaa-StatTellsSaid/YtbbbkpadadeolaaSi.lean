/- Fade (layer 8): hurts and boosts of all that is on the Field go; of no store. -/
import Derived.Test.YtbbbkpadadeolaaSd
namespace Go.Proofs.Ytbbbkpadadeolaa
open Go.RowKit Go.Maps
attribute [local go_sem] Oper.semAt_some

def fadeO (o : ObjL) : ObjL := ⟨o.id, o.card, o.owner, o.zone, o.tapped, o.sick, 0, o.count, 0, o.block, o.attacks⟩
def woundO (o : ObjL) : Bool := !(o.hurt == 0 && o.boost == 0)
theorem fadeO_well {o : ObjL} (h : woundO o = false) : fadeO o = o := by
  obtain ⟨x0, x1, x2, x3, x4, x5, x6, x7, x8, x9, x10⟩ := o
  simp [woundO] at h
  obtain ⟨rfl, rfl⟩ := h
  rfl
def fadeAll (S : StoreL) (X : List Int) : StoreL := { S with objs := S.objs.map fun o => if X.contains o.id then fadeO o else o }
theorem fadeAll_nil (S : StoreL) : fadeAll S [] = S := by
  unfold fadeAll
  have : (S.objs.map fun o => if ([] : List Int).contains o.id then fadeO o else o) = S.objs := by simp
  rw [this]
theorem fadeAll_len (S : StoreL) (X : List Int) : (fadeAll S X).objs.length = S.objs.length := by simp [fadeAll]
theorem fadeAll_get {S : StoreL} (h : WfS S) (X : List Int) (k : Nat) (hk : k < S.objs.length) : (fadeAll S X).objs[k]'(by rw [fadeAll_len]; exact hk) = if X.contains ((k : Int) + 1) then fadeO S.objs[k] else S.objs[k] := by
  simp only [fadeAll, List.getElem_map]
  rw [(h.ids k hk).1]
theorem fadeAll_wf {S : StoreL} (h : WfS S) (X : List Int) : WfS (fadeAll S X) := by
  refine h.like (by simp) (fun k hk hk' => ?_)
  simp only [List.getElem_map]
  split <;> exact ⟨rfl, rfl, rfl, rfl⟩
theorem fadeAll_snoc {S : StoreL} (h : WfS S) (X : List Int) (k : Nat) (hk : k < S.objs.length) : setL (fadeAll S X) k (fadeO S.objs[k]) = fadeAll S (X ++ [(k : Int) + 1]) := by
  have e : (fadeAll S X).objs.set k (fadeO S.objs[k]) = (fadeAll S (X ++ [(k : Int) + 1])).objs := by
    refine List.ext_getElem (by simp [fadeAll]) (fun i h1 h2 => ?_)
    have hi : i < S.objs.length := by rw [fadeAll_len] at h2; exact h2
    rw [List.getElem_set]
    by_cases e : k = i
    · subst e
      rw [if_pos rfl, fadeAll_get h _ k hk, List.contains_append]
      have : ([(k : Int) + 1] : List Int).contains ((k : Int) + 1) = true := by simp
      rw [this, Bool.or_true, if_pos rfl]
    · rw [if_neg e, fadeAll_get h X i hi, fadeAll_get h _ i hi, List.contains_append]
      have : ([(k : Int) + 1] : List Int).contains ((i : Int) + 1) = false := by simp; omega
      rw [this, Bool.or_false]
  unfold setL
  rw [e]
  rfl
theorem fadeAll_skip {S : StoreL} (h : WfS S) (X : List Int) (k : Nat) (hk : k < S.objs.length) (hw : woundO S.objs[k] = false) : fadeAll S (X ++ [(k : Int) + 1]) = fadeAll S X := by
  have e : (fadeAll S (X ++ [(k : Int) + 1])).objs = (fadeAll S X).objs := by
    refine List.ext_getElem (by simp [fadeAll]) (fun i h1 h2 => ?_)
    have hi : i < S.objs.length := by rw [fadeAll_len] at h2; exact h2
    rw [fadeAll_get h X i hi, fadeAll_get h _ i hi, List.contains_append]
    by_cases e : k = i
    · subst e
      rw [fadeO_well hw]
      split <;> split <;> rfl
    · have : ([(k : Int) + 1] : List Int).contains ((i : Int) + 1) = false := by simp; omega
      rw [this, Bool.or_false]
  show ({ S with objs := (fadeAll S (X ++ [(k : Int) + 1])).objs } : StoreL) = _
  rw [e]
  rfl
def onF (o : ObjL) : Bool := o.zone == 3
def fadeL (S : StoreL) : StoreL := { S with objs := S.objs.map fun o => if onF o then fadeO o else o }
def fadeN (S : StoreL) : Nat := (S.objs.filter fun o => onF o && woundO o).length
theorem fadeL_wf {S : StoreL} (h : WfS S) : WfS (fadeL S) := by
  refine h.like (by simp) (fun k hk hk' => ?_)
  simp only [List.getElem_map]
  split <;> exact ⟨rfl, rfl, rfl, rfl⟩
theorem fadeL_len (S : StoreL) : (fadeL S).objs.length = S.objs.length := by simp [fadeL]
theorem field_permF {S : StoreL} (h : WfS S) (hn : 1 ≤ S.seats) : (fieldL S []).Perm (S.objs.filter onF) := by
  have ok : okK S.seats 0 3 := ⟨by omega, by decide, by decide, fun _ => rfl⟩
  have hself : ∀ k (hk : k < S.objs.length), objOf S ((k : Int) + 1) = S.objs[k] := fun k hk => objOf_at hk
  have e2 : S.objs.filter onF = ((S.objs.filter onF).map (·.id)).map (objOf S) := by
    rw [List.map_map]
    conv => lhs; rw [← List.map_id (S.objs.filter onF)]
    refine List.map_congr_left (fun o hm => ?_)
    obtain ⟨k, hk, rfl⟩ := List.getElem_of_mem (List.mem_filter.1 hm).1
    show S.objs[k] = objOf S S.objs[k].id
    rw [(h.ids k hk).1, hself k hk]
  rw [field_eq, e2]
  refine List.Perm.map _ ?_
  have hnd : ((S.objs.filter onF).map (·.id)).Nodup := by
    unfold List.Nodup
    rw [List.pairwise_map]
    refine List.Pairwise.filter _ ?_
    rw [List.pairwise_iff_getElem]
    intro i j hi hj hij
    rw [(h.ids i hi).1, (h.ids j hj).1]
    omega
  rw [List.perm_ext_iff_of_nodup ((h.nodup 0 3 ok).filter _) hnd]
  intro i
  rw [List.mem_filter, List.mem_map]
  constructor
  · rintro ⟨hi, _⟩
    obtain ⟨k, hk, e, hoo, hz⟩ := h.onField hn hi
    refine ⟨S.objs[k], List.mem_filter.2 ⟨List.getElem_mem hk, ?_⟩, by rw [(h.ids k hk).1, e]⟩
    unfold onF
    rw [hz]
    rfl
  · rintro ⟨o, hm, rfl⟩
    obtain ⟨hm, hb⟩ := List.mem_filter.1 hm
    obtain ⟨k, hk, rfl⟩ := List.getElem_of_mem hm
    unfold onF at hb
    have hz : S.objs[k].zone = 3 := by simpa using hb
    refine ⟨(h.mem 0 3 ok _).2 ⟨k, hk, (h.ids k hk).1, by unfold keyS canN; rw [hz]; rfl, by rw [hz]; rfl⟩, ?_⟩
    rfl
theorem fade_eq {S : StoreL} (h : WfS S) (hn : 1 ≤ S.seats) : fadeAll S ((fieldL S []).map (·.id)) = fadeL S := by
  have hp := field_permF h hn
  have e : (fadeAll S ((fieldL S []).map (·.id))).objs = (fadeL S).objs := by
    unfold fadeAll fadeL
    dsimp only
    refine List.map_congr_left (fun o hm => ?_)
    have : ((fieldL S []).map (·.id)).contains o.id = onF o := by
      obtain ⟨k, hk, rfl⟩ := List.getElem_of_mem hm
      rw [Bool.eq_iff_iff, List.contains_iff_mem, List.mem_map]
      constructor
      · rintro ⟨y, hy, e⟩
        obtain ⟨hy1, hy2⟩ := List.mem_filter.1 (hp.subset hy)
        obtain ⟨j, hj, rfl⟩ := List.getElem_of_mem hy1
        rw [(h.ids j hj).1, (h.ids k hk).1] at e
        obtain rfl : j = k := by omega
        exact hy2
      · intro hb
        exact ⟨S.objs[k], hp.symm.subset (List.mem_filter.2 ⟨hm, hb⟩), rfl⟩
    rw [this]
  show ({ S with objs := (fadeAll S ((fieldL S []).map (·.id))).objs } : StoreL) = _
  rw [e]
  rfl
theorem fadeN_eq {S : StoreL} (h : WfS S) (hn : 1 ≤ S.seats) : ((fieldL S []).filter woundO).length = fadeN S := by
  rw [((field_permF h hn).filter woundO).length_eq, List.filter_filter]
  unfold fadeN
  congr 1
  refine List.filter_congr (fun o _ => ?_)
  rw [Bool.and_comm]
def FadeI (S : StoreL) (q lo b : Nat) (G : Ghost) (A Wr : World) (pre : List ObjL) (W : World) : Prop :=
  StoreAt W lo b G (fadeAll S (pre.map (·.id))) ∧ HdAt W (q + 1) (.int .i64 (pre.filter woundO).length) ∧ KpP (fun k => G.ov.ownBlock = some k ∨ k = q + 1) (fun _ => False) Wr W ∧ Turned A W G G ∧ pre.length ≤ 1000
theorem fadeI_own {S : StoreL} {q lo b B : Nat} {G : Ghost} {A Wr : World} (hA : A.heap.size ≤ B) (hB : Wr.heap.size ≤ B) (hG : ∀ k, B ≤ k → G.tag k = .no) : OwnFrom B (FadeI S q lo b G A Wr) := by
  rintro s X Y row ⟨h1, h2, h3, h4, h5⟩ hg hr
  have hr' : ∀ r, row = some r → ∃ o : Obj, X.heap[r]? = some o ∧ o.isCells = false := fun r e => (hr r e).2
  refine ⟨h1.kept hg.size fun k hk => hg.block k (h1.tagLt hk) (fun e => hk (hG k (hr k e.symm).1)), h2.grown hg hr', kpP_own (β := Unit) hB () X Y row h3 hg hr, ⟨⟨hg.os.trans h4.chg.os, hg.tape.trans h4.chg.tape, hg.output.trans h4.chg.output, Nat.le_trans h4.chg.size hg.size, fun k hk ht => ?_⟩, fun _ _ => rfl⟩, h5⟩
  exact (hg.block k (Nat.lt_of_lt_of_le hk h4.chg.size) (fun e => by have := (hr k e.symm).1; omega)).trans (h4.chg.block k hk ht)
theorem fade_id (pre : List ObjL) (x : ObjL) : (pre ++ [x]).map (·.id) = pre.map (·.id) ++ [x.id] := by simp
theorem fade_cnt (pre : List ObjL) (x : ObjL) : ((pre ++ [x]).filter woundO).length = (pre.filter woundO).length + (if woundO x then 1 else 0) := by
  rw [List.filter_append, List.length_append]
  by_cases h : woundO x = true
  · simp [h]
  · simp [h]
theorem fade_step {S S' : StoreL} {q lo b l qo : Nat} {G : Ghost} {A Wr W Wb w5 : World} {pre : List ObjL} {u4 u5 : Value} (hI : FadeI S q lo b G A Wr pre Wb) (hq : A.heap.size = q) (hov : ∀ k, G.ov.ownBlock = some k → k < q ∧ G.tag k = .row) (htag : G.tag (q + 1) = .no)
    (hqo : W.heap.size = qo) (hwr : Wr.heap.size + 1 < qo) (hq4 : q + 4 ≤ Wr.heap.size) (hob : ∃ C t, Wb.heap[qo]? = some (.cells C t (0, 0))) (hkw : KpP (fun k => (G.ov.ownBlock = some k ∨ k = q + 1) ∨ k = l) (fun _ => False) W Wb)
    (hg : ((Wb.setCell ⟨qo, 6, none⟩ u4).setCell ⟨qo, 8, none⟩ u5).grownBy w5 G.ov.ownBlock) (hs : StoreAt w5 lo b G S') :
    HdAt w5 (q + 1) (.int .i64 (pre.filter woundO).length) ∧ ∀ u, KeepsFrom Wr.heap.size Wb (w5.setCell ⟨q + 1, 0, none⟩ u) ∧ KpP (fun k => (G.ov.ownBlock = some k ∨ k = q + 1) ∨ k = l) (fun _ => False) W (w5.setCell ⟨q + 1, 0, none⟩ u) ∧
      StoreAt (w5.setCell ⟨q + 1, 0, none⟩ u) lo b G S' ∧ HdAt (w5.setCell ⟨q + 1, 0, none⟩ u) (q + 1) u ∧ KpP (fun k => G.ov.ownBlock = some k ∨ k = q + 1) (fun _ => False) Wr (w5.setCell ⟨q + 1, 0, none⟩ u) ∧ Turned A (w5.setCell ⟨q + 1, 0, none⟩ u) G G := by
  obtain ⟨st0, hc0, kp0, td0, _⟩ := hI
  obtain ⟨C, t, hob⟩ := hob
  have hsz : Wb.heap.size ≤ w5.heap.size := by have := hg.size; simpa using this
  have keep : ∀ k, k < Wb.heap.size → k ≠ qo → G.ov.ownBlock ≠ some k → w5.heap[k]? = Wb.heap[k]? := fun k hk h1 h2 => by
    rw [hg.block k (by simpa using hk) (fun e => h2 e.symm), heap_setCell_other _ ⟨qo, 8, none⟩ k u5 h1, heap_setCell_other _ ⟨qo, 6, none⟩ k u4 h1]
  have hd5 : HdAt w5 (q + 1) (.int .i64 (pre.filter woundO).length) := hc0.of (keep _ hc0.lt (by omega) (fun e => by have := (hov _ e).1; omega))
  refine ⟨hd5, fun u => ?_⟩
  have keep6 : ∀ k, k < Wb.heap.size → k ≠ qo → G.ov.ownBlock ≠ some k → k ≠ q + 1 → (w5.setCell ⟨q + 1, 0, none⟩ u).heap[k]? = Wb.heap[k]? := fun k hk h1 h2 h3 =>
    (heap_setCell_other w5 ⟨q + 1, 0, none⟩ k u h3).trans (keep k hk h1 h2)
  have hlt : ∀ {X : World} {k : Nat} {o : Obj}, X.heap[k]? = some o → k < X.heap.size := fun h => (Array.getElem?_eq_some_iff.1 h).1
  refine ⟨⟨by simpa using hsz, fun k o hB ho hc => ?_⟩, ⟨by have := hkw.size; simp; omega, fun k o ho hE hO => ?_, fun _ _ e => e.elim⟩, store_setN hs htag u, hd5.set u, ⟨by have := kp0.size; simp; omega, fun k o ho hE hO => ?_, fun _ _ e => e.elim⟩, ⟨⟨?_, ?_, ?_, by have := td0.chg.size; simp; omega, fun k hk ht => ?_⟩, fun _ _ => rfl⟩⟩
  · refine (keep6 k (hlt ho) (fun e => ?_) (fun e => ?_) (by omega)).trans ho
    · rw [e, hob] at ho; injection ho with ho; rw [← ho] at hc; simp [Obj.isCells] at hc
    · have := (hov k e).1; omega
  · have h1 := hkw.rest k o ho hE (fun _ => ⟨fun e => e, fun _ e => e.elim⟩)
    have := hlt ho
    exact (keep6 k (hlt h1) (by omega) (fun e => hE (.inl (.inl e))) (fun e => hE (.inl (.inr e)))).trans h1
  · have h1 := kp0.rest k o ho hE (fun _ => ⟨fun e => e, fun _ e => e.elim⟩)
    have := hlt ho
    exact (keep6 k (hlt h1) (by omega) (fun e => hE (.inl e)) (fun e => hE (.inr e))).trans h1
  · exact (show w5.os = Wb.os from hg.os).trans td0.chg.os
  · exact (show w5.tape = Wb.tape from hg.tape).trans td0.chg.tape
  · exact (show w5.output = Wb.output from hg.output).trans td0.chg.output
  · have := kp0.size
    refine (keep6 k (by omega) (by omega) (fun e => ?_) (by omega)).trans (td0.chg.block k hk ht)
    rw [(hov k e).2] at ht
    simp at ht
theorem nil_ints (w : World) : IntsAt w (.slice none 0 0) [] := .inl ⟨none, 0, rfl, rfl⟩
set_option maxRecDepth 100000 in
set_option maxHeartbeats 4000000 in
theorem fade_in {w : World} {lo b : Nat} {G : Ghost} {S : StoreL} (h : StoreAt w lo b G S) (hS : WfS S) (hl : S.objs.length ≤ 1000) :
    CallsIn Fence.wide 9 Try.prog 19 #[.pointer (some ⟨b, 0, none⟩)] w (RetS w lo b G (fadeAll S ((fieldL S []).map (·.id))) (.int .i64 ((fieldL S []).filter woundO).length)) := by
  have hn1 := h.n1
  have HFL := Lib.hid (fieldL_len hS hl hn1 [])
  have HH := Lib.hid h
  have HW := Lib.hid hS
  have hb1 := below_new w (.cells #[.pointer (some ⟨b, 0, none⟩)] 25)
  have hb2 := below_new (w.alloc (.cells #[.pointer (some ⟨b, 0, none⟩)] 25)) (.cells #[.int .i64 0] 3)
  have hs0 := (HdAt.new w (.pointer (some ⟨b, 0, none⟩)) 25).later hb2
  have hc0 := HdAt.new (w.alloc (.cells #[.pointer (some ⟨b, 0, none⟩)] 25)) (.int .i64 0) 3
  have hbb := stepB hb1 hb2
  simp only [World.size_alloc] at hc0
  have HFA := Lib.hid (field_any (some ⟨b, 0, none⟩) ((nil_ints w).later hbb) (by decide))
  have HS0 := Lib.hid hs0
  have HC0 := Lib.hid hc0
  have HBB := Lib.hid hbb
  clear hb1 hb2 hs0 hc0 hbb h hS
  refine callsIn_of_wp_marks Try.func19 rfl trivial ?_ rfl
  simp only [Try.ntmps19, List.size_toArray, List.length_cons, List.length_nil, Nat.reduceAdd, Nat.reduceSub, Array.replicate_succ, Array.replicate_zero, List.push_toArray, List.append_toArray, List.nil_append, List.cons_append]
  gi_wp2_with fail
  refine ⟨trivial, (callsIn_wide.2 HFA.out).mono ?_⟩
  rintro e wr ⟨rfl, hf1, ⟨u, hf2, hu⟩, hbr⟩
  have HBR := Lib.hid (stepB HBB.out hbr)
  have HSB := Lib.hid (HS0.out.later hbr)
  have HCB := Lib.hid (HC0.out.later hbr)
  obtain ⟨q, hq⟩ : ∃ q, w.heap.size = q := ⟨_, rfl⟩
  have HQQ := Lib.hid hq
  simp only [World.size_alloc, hq] at hf1 hf2
  simp only [hq] at HSB HCB
  have hsr := HH.out.later HBR.out
  have HTAG := Lib.hid (show ∀ k, q ≤ k → G.tag k = .no from fun k hk => HH.out.high k (by omega))
  have HOV := Lib.hid (show ∀ k, G.ov.ownBlock = some k → k < q ∧ G.tag k = .row from fun k hk => ⟨by have := HH.out.tagLt (k := k) (by rw [HH.out.tr k hk]; simp); omega, HH.out.tr k hk⟩)
  have HSR := Lib.hid (show q + 4 ≤ wr.heap.size by have := hf2.lt; omega)
  have HSEQ := Lib.hid (field_seq 8 (by omega) (w := wr) (fun k => G.ov.ownBlock = some k ∨ k = q + 1) (fun _ => False) (fun k hk => by have h1 := HSR.out; rcases hk with hk | rfl; (have := (HOV.out k hk).1; omega); omega) hf1 hf2 hsr HW.out hl hu (by decide) (fun c hc => hc.elim))
  have HI0 : Hid (FadeI S q lo b G w wr [] wr) := Lib.hid ⟨by rw [List.map_nil, fadeAll_nil]; exact hsr, HCB.out, KpP.refl _ _ _, Turned.of_below HBR.out, Nat.zero_le _⟩
  clear hf1 hf2 hu hbr HS0 HC0 HFA HBB hsr
  simp only [World.size_alloc, hq]
  gi_wp2_with fail
  refine range_world3 rfl (by omega) (I := FadeI S q lo b G w wr) (Ix := fun _ _ _ => False) (gf := 53) (lb := _) rfl trivial (fun _ _ => by kernel_rfl) HSEQ.out KpP.trans (fun W' o o' ho hc _ => KpP.put o' (.inr rfl) ho hc) (fun W W' hb => KpP.of_below _ _ hb) (Below.refl _ _) (fun _ => rfl)
    (fadeI_own HBR.out.size (Nat.le_refl _) (fun k hk => HTAG.out k (by have := HSR.out; omega))) (fun c s A B row hs hg hr => hs) (fun s A B row hs hg hr => hs) (fun s A B row hs hg hr => hs) HI0.out ?round ?done ?stop
  case stop =>
    rintro D c pre W hD hS hI hK
    exact hI.elim
  case round =>
    rintro pre x W K hI hT hsz hK
    obtain ⟨k, hk, hx, hid, hz, n, hcn, hn⟩ := field_mem HW.out hn1 (show x ∈ fieldL S [] from hT.subset (by simp))
    have hsn := fadeAll_snoc HW.out (pre.map (·.id)) k hk
    have hsk := fadeAll_skip HW.out (pre.map (·.id)) k hk
    have hct := fade_cnt pre x
    have hids := fade_id pre x
    rw [← hx] at hsn hsk
    have htl := hT.length_le
    have hxc : x.card = S.objs[k].card := by rw [hx]
    have hxo : x.owner = S.objs[k].owner := by rw [hx]
    have hxz : x.zone = S.objs[k].zone := by rw [hx]
    have hgk := fadeAll_get HW.out (pre.map (·.id)) k hk
    have hgc : ((fadeAll S (pre.map (·.id))).objs[k]'(by rw [fadeAll_len]; exact hk)).card = S.objs[k].card ∧ ((fadeAll S (pre.map (·.id))).objs[k]'(by rw [fadeAll_len]; exact hk)).owner = S.objs[k].owner ∧ ((fadeAll S (pre.map (·.id))).objs[k]'(by rw [fadeAll_len]; exact hk)).zone = S.objs[k].zone := by
      rw [hgk]
      split <;> exact ⟨rfl, rfl, rfl⟩
    rw [hid] at hids
    have HST := Lib.hid (fun (W' : World) (hs : StoreAt W' lo b G (fadeAll S (pre.map (·.id)))) => set_same hs (by rw [fadeAll_len]; exact hl) k (by rw [fadeAll_len]; exact hk) (fadeO x) hid (hxc.trans hgc.1.symm) (hxo.trans hgc.2.1.symm) (hxz.trans hgc.2.2.symm))
    rw [hsn] at HST
    obtain ⟨x0, x1, x2, x3, x4, x5, x6, x7, x8, x9, x10⟩ := x
    dsimp only at hid hcn hz
    subst hid hcn hz
    have HIDS := Lib.hid hids
    have HSK := Lib.hid hsk
    have HCT := Lib.hid hct
    have HK := Lib.hid hK
    have HTL := Lib.hid (show pre.length + 1 ≤ 1000 from by have := HFL.out; simp at htl; omega)
    have hcl : (pre.filter woundO).length ≤ 1000 := Nat.le_trans (List.length_filter_le _ _) (by have := HTL.out; omega)
    clear hK hT hx hsn hsk hct hids htl hxc hxo hxz hgk hgc hI
    unfold fadeO oagg at HST
    dsimp only at HST
    simp only [encO, ocs]
    simp
    gi_wp2
    refine HK.out _ _ (below_new W _) ?_
    clear HK
    intro Wb hsz2 hrest hkw hI0
    have HIU := Lib.hid hI0
    obtain ⟨st0, hc0, kp0, td0, hpl0⟩ := hI0
    have HKB := Lib.hid hkw
    obtain ⟨qo, hqo⟩ : ∃ qo, W.heap.size = qo := ⟨_, rfl⟩
    have HQO := Lib.hid hqo
    have hbx := (hrest W.heap.size (by omega)).trans (heap_alloc_new W _)
    have hbx0 := hbx
    rw [hqo] at hbx hbx0 hsz ⊢
    obtain ⟨o0, o1, o2, o3, o4, o5, o6, o7, o8, o9, o10⟩ := obj_of_row (x := ⟨(k : Int) + 1, n, x2, 3, x4, x5, x6, x7, x8, x9, x10⟩) hbx
    have fo := fun j => frozen_of_row Wb qo j _ _ hbx
    simp only [Nat.zero_add] at o1 o2 o3 o4 o5 o6 o7 o8 o9 o10
    have hsW := box_kept HSB.out kp0 (fun e => by rcases e with e | e; (have := (HOV.out q e).1; omega); omega) ⟨fun e => e, fun _ e => e.elim⟩
    have c2 := hsW.cell
    have c5 := hc0.cell
    have HST0 := Lib.hid st0
    have HC0 := Lib.hid hc0
    have HK0 := Lib.hid kp0
    have HT0 := Lib.hid td0
    have HSW := Lib.hid hsW
    have HSZ := Lib.hid hsz
    have HSZ2 := Lib.hid (show qo < Wb.heap.size by rw [hsz2, World.size_alloc]; omega)
    clear hsz2 hrest hkw hqo hbx hsW st0 hc0 kp0 td0 hpl0
    have HOB := Lib.hid hbx0
    clear hbx0
    by_cases haw : woundO ⟨(k : Int) + 1, n, x2, 3, x4, x5, x6, x7, x8, x9, x10⟩ = true
    · have HCTT := Lib.hid (by have h := HCT.out; rw [if_pos haw] at h; exact h)
      have HSS := Lib.hid (store_setN (j := 8) (store_setN (j := 6) HST0.out (HTAG.out qo (by have := HSR.out; have := HSZ.out; omega)) (.int .i64 0)) (HTAG.out qo (by have := HSR.out; have := HSZ.out; omega)) (.int .i64 0))
      have HST2 := Lib.hid (HST.out _ HSS.out)
      have c2' : ((Wb.setCell ⟨qo, 6, none⟩ (.int .i64 0)).setCell ⟨qo, 8, none⟩ (.int .i64 0)).cell? ⟨q, 0, none⟩ = some (.pointer (some ⟨b, 0, none⟩)) := ((HSW.out.other (j := 6) (show q ≠ qo by have := HSR.out; have := HSZ.out; omega) (.int .i64 0)).other (j := 8) (show q ≠ qo by have := HSR.out; have := HSZ.out; omega) (.int .i64 0)).cell
      clear HCT HSK HST c5
      by_cases h6 : x6 = 0
      · subst h6
        have h8 : (x8 == 0) = false := by simpa [woundO] using haw
        have h66 : ((0 : Int) == 0) = true := rfl
        clear haw
        gi_wp2_with fail
        refine ⟨trivial, (callsIn_wide.2 HST2.out).mono ?_⟩
        rintro e w5 ⟨rfl, hs5, hg5⟩
        have hstep := fade_step (u4 := .int .i64 0) (u5 := .int .i64 0) HIU.out HQQ.out HOV.out (HTAG.out (q + 1) (by omega)) HQO.out HSZ.out HSR.out ⟨_, _, HOB.out⟩ HKB.out hg5 hs5
        have c5 := hstep.1.cell
        have f5 := hstep.1.frozen
        have HSTEP := Lib.hid hstep.2
        clear hs5 hg5 hstep c2 c2' o0 o1 o2 o3 o4 o5 o6 o7 o8 o9 o10 fo
        dsimp only
        gi_wp2
        obtain ⟨s1, s2, s3, s4, s5, s6⟩ := HSTEP.out (.int .i64 ((pre.filter woundO).length + 1))
        rw [← HIDS.out] at s3
        have s7 := congrArg (fun z : Nat => Value.int .i64 (z : Int)) HCTT.out
        rw [show (((pre.filter woundO).length + 1 : Nat) : Int) = ((pre.filter woundO).length : Int) + 1 by omega] at s7
        rw [← s7] at s1 s2 s3 s4 s5 s6
        rw [← s7]
        exact ⟨s1, s2, s3, s4, s5, s6, by rw [List.length_append]; exact HTL.out⟩
      · have h66 : (x6 == 0) = false := beq_eq_false_iff_ne.2 h6
        clear h6
        clear haw
        gi_wp2_with fail
        refine ⟨trivial, (callsIn_wide.2 HST2.out).mono ?_⟩
        rintro e w5 ⟨rfl, hs5, hg5⟩
        have hstep := fade_step (u4 := .int .i64 0) (u5 := .int .i64 0) HIU.out HQQ.out HOV.out (HTAG.out (q + 1) (by omega)) HQO.out HSZ.out HSR.out ⟨_, _, HOB.out⟩ HKB.out hg5 hs5
        have c5 := hstep.1.cell
        have f5 := hstep.1.frozen
        have HSTEP := Lib.hid hstep.2
        clear hs5 hg5 hstep c2 c2' o0 o1 o2 o3 o4 o5 o6 o7 o8 o9 o10 fo
        dsimp only
        gi_wp2
        obtain ⟨s1, s2, s3, s4, s5, s6⟩ := HSTEP.out (.int .i64 ((pre.filter woundO).length + 1))
        rw [← HIDS.out] at s3
        have s7 := congrArg (fun z : Nat => Value.int .i64 (z : Int)) HCTT.out
        rw [show (((pre.filter woundO).length + 1 : Nat) : Int) = ((pre.filter woundO).length : Int) + 1 by omega] at s7
        rw [← s7] at s1 s2 s3 s4 s5 s6
        rw [← s7]
        exact ⟨s1, s2, s3, s4, s5, s6, by rw [List.length_append]; exact HTL.out⟩
    · have HCTT := Lib.hid (by have h := HCT.out; rw [if_neg haw] at h; exact h)
      obtain ⟨rfl, rfl⟩ : x6 = 0 ∧ x8 = 0 := by simpa [woundO] using haw
      have HSKK := Lib.hid (HSK.out rfl)
      gi_wp2
      have h1 := HST0.out
      rw [← HSKK.out, ← HIDS.out] at h1
      have h2 := HC0.out
      rw [show ((pre.filter woundO).length : Int) = (((pre.filter woundO).length + 0 : Nat) : Int) by simp, ← HCTT.out] at h2
      exact ⟨(KpP.refl (fun _ => False) (fun _ => False) _).from (fun k e => e.elim), HKB.out, h1, h2, HK0.out, HT0.out, by rw [List.length_append]; exact HTL.out⟩
  case done =>
    rintro D ys W hD hS ⟨st0, hc0, kp0, td0, hpl0⟩ hK
    subst hS
    have c5 := hc0.cell
    have HST0 := Lib.hid st0
    have HT0 := Lib.hid td0
    have HDT := Lib.hid (show G.tag D = .no from HTAG.out D (by have := HSR.out; omega))
    clear st0 hc0 kp0 td0
    gi_wp2
    refine ⟨by simp, .inl ⟨_, _, rfl, run_takeDeferred hK, ?_⟩⟩
    refine ⟨_, results_tmp rfl _ _ _, rfl, G, ?_, ?_⟩
    · refine HST0.out.kept (by simp) fun k hk => World.putObj_heap_other (fun e => hk (by rw [e]; exact HDT.out))
    · exact ⟨⟨HT0.out.chg.os, HT0.out.chg.tape, HT0.out.chg.output, by simpa using HT0.out.chg.size, fun k hk ht => (World.putObj_heap_other (by have := HSR.out; have := HQQ.out; omega)).trans (HT0.out.chg.block k hk ht)⟩, fun _ _ => rfl⟩
theorem fade_any {w : World} {lo b : Nat} {G : Ghost} {S : StoreL} (h : StoreAt w lo b G S) (hS : WfS S) (hl : S.objs.length ≤ 1000) :
    Calls Try.prog 19 #[.pointer (some ⟨b, 0, none⟩)] w (RetS w lo b G (fadeL S) (.int .i64 (fadeN S))) := by
  rw [← fade_eq hS h.n1, ← fadeN_eq hS h.n1]
  exact (callsIn_wide (n := 9)).1 (fade_in h hS hl)
end Go.Proofs.Ytbbbkpadadeolaa
