/- Untap (layer 7): what some seats own on the Field is tapped, and sick, no more. -/
import Derived.Test.YtkhgdfalbmkgcaaJg
namespace Go.Proofs.Ytkhgdfalbmkgcaa
open Go.RowKit Go.Maps
attribute [local go_sem] Oper.semAt_some

def UntapI (S : StoreL) (q lo b : Nat) (G : Ghost) (A Wr : World) (pre : List ObjL) (W : World) : Prop :=
  StoreAt W lo b G (freeAll S (pre.map (·.id))) ∧ HdAt W (q + 1) (.int .i64 (pre.filter awayO).length) ∧ KpP (fun k => G.ov.ownBlock = some k ∨ k = q + 1) (fun _ => False) Wr W ∧ Turned A W G G ∧ pre.length ≤ 1000
theorem untapI_own {S : StoreL} {q lo b B : Nat} {G : Ghost} {A Wr : World} (hA : A.heap.size ≤ B) (hB : Wr.heap.size ≤ B) (hG : ∀ k, B ≤ k → G.tag k = .no) : OwnFrom B (UntapI S q lo b G A Wr) := by
  rintro s X Y row ⟨h1, h2, h3, h4, h5⟩ hg hr
  have hr' : ∀ r, row = some r → ∃ o : Obj, X.heap[r]? = some o ∧ o.isCells = false := fun r e => (hr r e).2
  refine ⟨h1.kept hg.size fun k hk => hg.block k (h1.tagLt hk) (fun e => hk (hG k (hr k e.symm).1)), h2.grown hg hr', kpP_own (β := Unit) hB () X Y row h3 hg hr, ⟨⟨hg.os.trans h4.chg.os, hg.tape.trans h4.chg.tape, hg.output.trans h4.chg.output, Nat.le_trans h4.chg.size hg.size, fun k hk ht => ?_⟩, fun _ _ => rfl⟩, h5⟩
  exact (hg.block k (Nat.lt_of_lt_of_le hk h4.chg.size) (fun e => by have := (hr k e.symm).1; omega)).trans (h4.chg.block k hk ht)
theorem store_setN {w : World} {lo b g j : Nat} {G : Ghost} {S : StoreL} (h : StoreAt w lo b G S) (hg : G.tag g = .no) (u : Value) : StoreAt (w.setCell ⟨g, j, none⟩ u) lo b G S :=
  h.kept (by simp) fun k hk => heap_setCell_other w ⟨g, j, none⟩ k u (fun e => hk (by rw [e]; exact hg))
theorem untap_id (pre : List ObjL) (x : ObjL) : (pre ++ [x]).map (·.id) = pre.map (·.id) ++ [x.id] := by simp
theorem untap_cnt (pre : List ObjL) (x : ObjL) : ((pre ++ [x]).filter awayO).length = (pre.filter awayO).length + (if awayO x then 1 else 0) := by
  rw [List.filter_append, List.length_append]
  by_cases h : awayO x = true
  · simp [h]
  · simp [h]
/-- A round that untaps: what it keeps. -/
theorem untap_step {S S' : StoreL} {q lo b l qo : Nat} {G : Ghost} {A Wr W Wb w5 : World} {pre : List ObjL} {u4 u5 : Value} (hI : UntapI S q lo b G A Wr pre Wb) (hq : A.heap.size = q) (hov : ∀ k, G.ov.ownBlock = some k → k < q ∧ G.tag k = .row) (htag : G.tag (q + 1) = .no)
    (hqo : W.heap.size = qo) (hwr : Wr.heap.size + 1 < qo) (hq4 : q + 4 ≤ Wr.heap.size) (hob : ∃ C t, Wb.heap[qo]? = some (.cells C t (0, 0))) (hkw : KpP (fun k => (G.ov.ownBlock = some k ∨ k = q + 1) ∨ k = l) (fun _ => False) W Wb)
    (hg : ((Wb.setCell ⟨qo, 4, none⟩ u4).setCell ⟨qo, 5, none⟩ u5).grownBy w5 G.ov.ownBlock) (hs : StoreAt w5 lo b G S') :
    HdAt w5 (q + 1) (.int .i64 (pre.filter awayO).length) ∧ ∀ u, KeepsFrom Wr.heap.size Wb (w5.setCell ⟨q + 1, 0, none⟩ u) ∧ KpP (fun k => (G.ov.ownBlock = some k ∨ k = q + 1) ∨ k = l) (fun _ => False) W (w5.setCell ⟨q + 1, 0, none⟩ u) ∧
      StoreAt (w5.setCell ⟨q + 1, 0, none⟩ u) lo b G S' ∧ HdAt (w5.setCell ⟨q + 1, 0, none⟩ u) (q + 1) u ∧ KpP (fun k => G.ov.ownBlock = some k ∨ k = q + 1) (fun _ => False) Wr (w5.setCell ⟨q + 1, 0, none⟩ u) ∧ Turned A (w5.setCell ⟨q + 1, 0, none⟩ u) G G := by
  obtain ⟨st0, hc0, kp0, td0, _⟩ := hI
  obtain ⟨C, t, hob⟩ := hob
  have hsz : Wb.heap.size ≤ w5.heap.size := by have := hg.size; simpa using this
  have keep : ∀ k, k < Wb.heap.size → k ≠ qo → G.ov.ownBlock ≠ some k → w5.heap[k]? = Wb.heap[k]? := fun k hk h1 h2 => by
    rw [hg.block k (by simpa using hk) (fun e => h2 e.symm), heap_setCell_other _ ⟨qo, 5, none⟩ k u5 h1, heap_setCell_other _ ⟨qo, 4, none⟩ k u4 h1]
  have hd5 : HdAt w5 (q + 1) (.int .i64 (pre.filter awayO).length) := hc0.of (keep _ hc0.lt (by omega) (fun e => by have := (hov _ e).1; omega))
  refine ⟨hd5, fun u => ?_⟩
  have keep6 : ∀ k, k < Wb.heap.size → k ≠ qo → G.ov.ownBlock ≠ some k → k ≠ q + 1 → (w5.setCell ⟨q + 1, 0, none⟩ u).heap[k]? = Wb.heap[k]? := fun k hk h1 h2 h3 =>
    (heap_setCell_other w5 ⟨q + 1, 0, none⟩ k u h3).trans (keep k hk h1 h2)
  have hlt : ∀ {X : World} {k : Nat} {o : Obj}, X.heap[k]? = some o → k < X.heap.size := fun h => (Array.getElem?_eq_some_iff.1 h).1
  refine ⟨⟨by simpa using hsz, fun k o hB ho hc => ?_⟩, ⟨by have := hkw.size; simp; omega, fun k o ho hE hO => ?_, fun _ _ e => e.elim⟩, store_setN hs htag u, hd5.set u, ⟨by have := kp0.size; simp; omega, fun k o ho hE hO => ?_, fun _ _ e => e.elim⟩, ⟨⟨?_, ?_, ?_, by have := td0.chg.size; simp; omega, fun k hk ht => ?_⟩, fun _ _ => rfl⟩⟩
  · refine (keep6 k (hlt ho) (fun e => ?_) (fun e => ?_) (by omega)).trans ho
    · rw [e, hob] at ho; injection ho with ho; rw [← ho] at hc; simp [Obj.isCells] at hc
    · have := (hov k e).1; omega
  · have h1 := hkw.rest k o ho hE (fun _ => ⟨fun e => e, fun _ e => e.elim⟩)
    have := hlt ho
    exact (keep6 k (hlt h1) (by omega) (fun e => hE (.inl (.inl e))) (fun e => hE (.inl (.inr e)))).trans h1
  · have h1 := kp0.rest k o ho hE (fun _ => ⟨fun e => e, fun _ e => e.elim⟩)
    have := hlt ho
    exact (keep6 k (hlt h1) (by omega) (fun e => hE (.inl e)) (fun e => hE (.inr e))).trans h1
  · exact (show w5.os = Wb.os from hg.os).trans td0.chg.os
  · exact (show w5.tape = Wb.tape from hg.tape).trans td0.chg.tape
  · exact (show w5.output = Wb.output from hg.output).trans td0.chg.output
  · have := kp0.size
    refine (keep6 k (by omega) (by omega) (fun e => ?_) (by omega)).trans (td0.chg.block k hk ht)
    rw [(hov k e).2] at ht
    simp at ht
set_option maxRecDepth 100000 in
set_option maxHeartbeats 4000000 in
theorem untap_in {w : World} {lo b : Nat} {G : Ghost} {S : StoreL} {v : Value} {os : List Int} (h : StoreAt w lo b G S) (hS : WfS S) (hl : S.objs.length ≤ 1000) (hv : IntsAt w v os) (hol : os.length ≤ 1000) (hpos : 0 < os.length) :
    CallsIn Fence.wide 9 Try.prog 33 #[.pointer (some ⟨b, 0, none⟩), v] w (RetS w lo b G (freeAll S ((fieldL S os).map (·.id))) (.int .i64 ((fieldL S os).filter awayO).length)) := by
  have hn1 := h.n1
  have HFL := Lib.hid (fieldL_len hS hl hn1 os)
  have HH := Lib.hid h
  have HW := Lib.hid hS
  obtain ⟨va, vc, rfl⟩ := hv.form
  have hb1 := below_new w (.cells #[.pointer (some ⟨b, 0, none⟩)] 26)
  have hb2 := below_new (w.alloc (.cells #[.pointer (some ⟨b, 0, none⟩)] 26)) (.cells #[.int .i64 0] 3)
  have hs0 := (HdAt.new w (.pointer (some ⟨b, 0, none⟩)) 26).later hb2
  have hc0 := HdAt.new (w.alloc (.cells #[.pointer (some ⟨b, 0, none⟩)] 26)) (.int .i64 0) 3
  have hbb := stepB hb1 hb2
  simp only [World.size_alloc] at hc0
  have HFA := Lib.hid (field_any (some ⟨b, 0, none⟩) (hv.later hbb) hol)
  have HS0 := Lib.hid hs0
  have HC0 := Lib.hid hc0
  have HBB := Lib.hid hbb
  have e0 : ((os.length : Int) == 0) = false := beq_eq_false_iff_ne.2 (by omega)
  clear hb1 hb2 hs0 hc0 hbb h hS hv hpos
  refine callsIn_of_wp_marks Try.func33 rfl trivial ?_ rfl
  simp only [Try.ntmps33, List.size_toArray, List.length_cons, List.length_nil, Nat.reduceAdd, Nat.reduceSub, Array.replicate_succ, Array.replicate_zero, List.push_toArray, List.append_toArray, List.nil_append, List.cons_append]
  gi_wp2_with fail
  refine ⟨trivial, (callsIn_wide.2 HFA.out).mono ?_⟩
  rintro e wr ⟨rfl, hf1, ⟨u, hf2, hu⟩, hbr⟩
  have HBR := Lib.hid (stepB HBB.out hbr)
  have HSB := Lib.hid (HS0.out.later hbr)
  have HCB := Lib.hid (HC0.out.later hbr)
  obtain ⟨q, hq⟩ : ∃ q, w.heap.size = q := ⟨_, rfl⟩
  have HQQ := Lib.hid hq
  simp only [World.size_alloc, hq] at hf1 hf2
  simp only [hq] at HSB HCB
  have hsr := HH.out.later HBR.out
  have HTAG := Lib.hid (show ∀ k, q ≤ k → G.tag k = .no from fun k hk => HH.out.high k (by omega))
  have HOV := Lib.hid (show ∀ k, G.ov.ownBlock = some k → k < q ∧ G.tag k = .row from fun k hk => ⟨by have := HH.out.tagLt (k := k) (by rw [HH.out.tr k hk]; simp); omega, HH.out.tr k hk⟩)
  have HSR := Lib.hid (show q + 4 ≤ wr.heap.size by have := hf2.lt; omega)
  have HSEQ := Lib.hid (field_seq 8 (by omega) (w := wr) (fun k => G.ov.ownBlock = some k ∨ k = q + 1) (fun _ => False) (fun k hk => by have h1 := HSR.out; rcases hk with hk | rfl; (have := (HOV.out k hk).1; omega); omega) hf1 hf2 hsr HW.out hl hu hol (fun c hc => hc.elim))
  have HI0 : Hid (UntapI S q lo b G w wr [] wr) := Lib.hid ⟨by rw [List.map_nil, freeAll_nil]; exact hsr, HCB.out, KpP.refl _ _ _, Turned.of_below HBR.out, Nat.zero_le _⟩
  clear hf1 hf2 hu hbr HS0 HC0 HFA HBB hsr
  simp only [World.size_alloc, hq]
  gi_wp2_with fail
  refine range_world3 rfl (by omega) (I := UntapI S q lo b G w wr) (Ix := fun _ _ _ => False) (gf := 40) (lb := _) rfl trivial (fun _ _ => by kernel_rfl) HSEQ.out KpP.trans (fun W' o o' ho hc _ => KpP.put o' (.inr rfl) ho hc) (fun W W' hb => KpP.of_below _ _ hb) (Below.refl _ _) (fun _ => rfl)
    (untapI_own HBR.out.size (Nat.le_refl _) (fun k hk => HTAG.out k (by have := HSR.out; omega))) (fun c s A B row hs hg hr => hs) (fun s A B row hs hg hr => hs) (fun s A B row hs hg hr => hs) HI0.out ?round ?done ?stop
  case stop =>
    rintro D c pre W hD hS hI hK
    exact hI.elim
  case round =>
    rintro pre x W K hI hT hsz hK
    obtain ⟨k, hk, hx, hid, hz, n, hcn, hn⟩ := field_mem HW.out hn1 (show x ∈ fieldL S os from hT.subset (by simp))
    have hsn := freeAll_snoc HW.out (pre.map (·.id)) k hk
    have hsk := freeAll_skip HW.out (pre.map (·.id)) k hk
    have hct := untap_cnt pre x
    have hids := untap_id pre x
    rw [← hx] at hsn hsk
    have htl := hT.length_le
    have hxc : x.card = S.objs[k].card := by rw [hx]
    have hxo : x.owner = S.objs[k].owner := by rw [hx]
    have hxz : x.zone = S.objs[k].zone := by rw [hx]
    have hgk := freeAll_get HW.out (pre.map (·.id)) k hk
    have hgc : ((freeAll S (pre.map (·.id))).objs[k]'(by rw [freeAll_len]; exact hk)).card = S.objs[k].card ∧ ((freeAll S (pre.map (·.id))).objs[k]'(by rw [freeAll_len]; exact hk)).owner = S.objs[k].owner ∧ ((freeAll S (pre.map (·.id))).objs[k]'(by rw [freeAll_len]; exact hk)).zone = S.objs[k].zone := by
      rw [hgk]
      split <;> exact ⟨rfl, rfl, rfl⟩
    rw [hid] at hids
    have HST := Lib.hid (fun (W' : World) (hs : StoreAt W' lo b G (freeAll S (pre.map (·.id)))) => set_same hs (by rw [freeAll_len]; exact hl) k (by rw [freeAll_len]; exact hk) (freeO x) hid (hxc.trans hgc.1.symm) (hxo.trans hgc.2.1.symm) (hxz.trans hgc.2.2.symm))
    rw [hsn] at HST
    obtain ⟨x0, x1, x2, x3, x4, x5, x6, x7, x8, x9, x10⟩ := x
    dsimp only at hid hcn hz
    subst hid hcn hz
    have HIDS := Lib.hid hids
    have HSK := Lib.hid hsk
    have HCT := Lib.hid hct
    have HK := Lib.hid hK
    have HTL := Lib.hid (show pre.length + 1 ≤ 1000 from by have := HFL.out; simp at htl; omega)
    have hcl : (pre.filter awayO).length ≤ 1000 := Nat.le_trans (List.length_filter_le _ _) (by have := HTL.out; omega)
    clear hK hT hx hsn hsk hct hids htl hxc hxo hxz hgk hgc hI
    unfold freeO oagg at HST
    dsimp only at HST
    simp only [encO, ocs]
    simp
    gi_wp2
    refine HK.out _ _ (below_new W _) ?_
    clear HK
    intro Wb hsz2 hrest hkw hI0
    have HIU := Lib.hid hI0
    obtain ⟨st0, hc0, kp0, td0, hpl0⟩ := hI0
    have HKB := Lib.hid hkw
    obtain ⟨qo, hqo⟩ : ∃ qo, W.heap.size = qo := ⟨_, rfl⟩
    have HQO := Lib.hid hqo
    have hbx := (hrest W.heap.size (by omega)).trans (heap_alloc_new W _)
    have hbx0 := hbx
    rw [hqo] at hbx hbx0 hsz ⊢
    obtain ⟨o0, o1, o2, o3, o4, o5, o6, o7, o8, o9, o10⟩ := obj_of_row (x := ⟨(k : Int) + 1, n, x2, 3, x4, x5, x6, x7, x8, x9, x10⟩) hbx
    have fo := fun j => frozen_of_row Wb qo j _ _ hbx
    simp only [Nat.zero_add] at o1 o2 o3 o4 o5 o6 o7 o8 o9 o10
    have hsW := box_kept HSB.out kp0 (fun e => by rcases e with e | e; (have := (HOV.out q e).1; omega); omega) ⟨fun e => e, fun _ e => e.elim⟩
    have c2 := hsW.cell
    have c5 := hc0.cell
    have HST0 := Lib.hid st0
    have HC0 := Lib.hid hc0
    have HK0 := Lib.hid kp0
    have HT0 := Lib.hid td0
    have HSW := Lib.hid hsW
    have HSZ := Lib.hid hsz
    have HSZ2 := Lib.hid (show qo < Wb.heap.size by rw [hsz2, World.size_alloc]; omega)
    clear hsz2 hrest hkw hqo hbx hsW st0 hc0 kp0 td0 hpl0
    have HOB := Lib.hid hbx0
    clear hbx0
    by_cases haw : awayO ⟨(k : Int) + 1, n, x2, 3, x4, x5, x6, x7, x8, x9, x10⟩ = true
    · have HCTT := Lib.hid (by have h := HCT.out; rw [if_pos haw] at h; exact h)
      have HSS := Lib.hid (store_setN (j := 5) (store_setN (j := 4) HST0.out (HTAG.out qo (by have := HSR.out; have := HSZ.out; omega)) (.bool false)) (HTAG.out qo (by have := HSR.out; have := HSZ.out; omega)) (.bool false))
      have HST2 := Lib.hid (HST.out _ HSS.out)
      have c2' : ((Wb.setCell ⟨qo, 4, none⟩ (.bool false)).setCell ⟨qo, 5, none⟩ (.bool false)).cell? ⟨q, 0, none⟩ = some (.pointer (some ⟨b, 0, none⟩)) := ((HSW.out.other (j := 4) (show q ≠ qo by have := HSR.out; have := HSZ.out; omega) (.bool false)).other (j := 5) (show q ≠ qo by have := HSR.out; have := HSZ.out; omega) (.bool false)).cell
      clear HCT HSK HST c5
      cases x4 <;> cases x5
      · simp [awayO] at haw
      all_goals
        clear haw
        gi_wp2_with fail
        refine ⟨trivial, (callsIn_wide.2 HST2.out).mono ?_⟩
        rintro e w5 ⟨rfl, hs5, hg5⟩
        have hstep := untap_step (u4 := .bool false) (u5 := .bool false) HIU.out HQQ.out HOV.out (HTAG.out (q + 1) (by omega)) HQO.out HSZ.out HSR.out ⟨_, _, HOB.out⟩ HKB.out hg5 hs5
        have c5 := hstep.1.cell
        have f5 := hstep.1.frozen
        have HSTEP := Lib.hid hstep.2
        clear hs5 hg5 hstep c2 c2' o0 o1 o2 o3 o4 o5 o6 o7 o8 o9 o10 fo
        dsimp only
        gi_wp2
        obtain ⟨s1, s2, s3, s4, s5, s6⟩ := HSTEP.out (.int .i64 ((pre.filter awayO).length + 1))
        rw [← HIDS.out] at s3
        have s7 := congrArg (fun z : Nat => Value.int .i64 (z : Int)) HCTT.out
        rw [show (((pre.filter awayO).length + 1 : Nat) : Int) = ((pre.filter awayO).length : Int) + 1 by omega] at s7
        rw [← s7] at s1 s2 s3 s4 s5 s6
        rw [← s7]
        exact ⟨s1, s2, s3, s4, s5, s6, by rw [List.length_append]; exact HTL.out⟩
    · have HCTT := Lib.hid (by have h := HCT.out; rw [if_neg haw] at h; exact h)
      obtain ⟨rfl, rfl⟩ : x4 = false ∧ x5 = false := by simpa [awayO] using haw
      have HSKK := Lib.hid (HSK.out rfl)
      gi_wp2
      have h1 := HST0.out
      rw [← HSKK.out, ← HIDS.out] at h1
      have h2 := HC0.out
      rw [show ((pre.filter awayO).length : Int) = (((pre.filter awayO).length + 0 : Nat) : Int) by simp, ← HCTT.out] at h2
      exact ⟨(KpP.refl (fun _ => False) (fun _ => False) _).from (fun k e => e.elim), HKB.out, h1, h2, HK0.out, HT0.out, by rw [List.length_append]; exact HTL.out⟩
  case done =>
    rintro D ys W hD hS ⟨st0, hc0, kp0, td0, hpl0⟩ hK
    subst hS
    have c5 := hc0.cell
    have HST0 := Lib.hid st0
    have HT0 := Lib.hid td0
    have HDT := Lib.hid (show G.tag D = .no from HTAG.out D (by have := HSR.out; omega))
    clear st0 hc0 kp0 td0
    gi_wp2
    refine ⟨by simp, .inl ⟨_, _, rfl, run_takeDeferred hK, ?_⟩⟩
    refine ⟨_, results_tmp rfl _ _ _, rfl, G, ?_, ?_⟩
    · refine HST0.out.kept (by simp) fun k hk => World.putObj_heap_other (fun e => hk (by rw [e]; exact HDT.out))
    · exact ⟨⟨HT0.out.chg.os, HT0.out.chg.tape, HT0.out.chg.output, by simpa using HT0.out.chg.size, fun k hk ht => (World.putObj_heap_other (by have := HSR.out; have := HQQ.out; omega)).trans (HT0.out.chg.block k hk ht)⟩, fun _ _ => rfl⟩
end Go.Proofs.Ytkhgdfalbmkgcaa
