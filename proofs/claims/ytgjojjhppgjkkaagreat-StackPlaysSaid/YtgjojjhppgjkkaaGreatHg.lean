/- What holds of a store at any time (layer 6): each object is in just one pile; Move, and Add of what may not be. -/
import Derived.Test.YtgjojjhppgjkkaaGreatHf
namespace Go.Proofs.YtgjojjhppgjkkaaGreat
open Go.RowKit Go.Maps

/-- Where an object belongs. -/
def keyS (o : ObjL) : Nat := canN o.owner.toNat o.zone.toNat
structure WfS (S : StoreL) : Prop where
  ids : ∀ k (h : k < S.objs.length), S.objs[k].id = (k : Int) + 1 ∧ 0 ≤ S.objs[k].card ∧ S.objs[k].card < S.T.length ∧ 0 ≤ S.objs[k].owner ∧ S.objs[k].owner < S.seats ∧ 1 ≤ S.objs[k].zone ∧ S.objs[k].zone ≤ 7
  nodup : ∀ s z, okK S.seats s z → (S.pl s z).Nodup
  mem : ∀ s z, okK S.seats s z → ∀ id : Int, id ∈ S.pl s z ↔ ∃ k, ∃ h : k < S.objs.length, id = (k : Int) + 1 ∧ keyS S.objs[k] = s ∧ S.objs[k].zone.toNat = z
theorem nodup_len : ∀ (n : Nat) (L : List Int), L.Nodup → (∀ x ∈ L, 1 ≤ x ∧ x ≤ (n : Int)) → L.length ≤ n
  | 0, L, _, h => by
    cases L with
    | nil => simp
    | cons x L => have := h x (by simp); omega
  | n + 1, L, hn, h => by
    by_cases hm : ((n : Int) + 1) ∈ L
    · have h1 := nodup_len n (L.erase ((n : Int) + 1)) (hn.erase _) (fun x hx => by
        have := (hn.mem_erase_iff).1 hx
        have := h x this.2
        omega)
      have := List.length_erase_of_mem hm
      omega
    · exact Nat.le_succ_of_le (nodup_len n L hn (fun x hx => by
        have := h x hx
        have : x ≠ (n : Int) + 1 := fun e => hm (e ▸ hx)
        omega))
theorem WfS.short {S : StoreL} (h : WfS S) (hl : S.objs.length ≤ 1000) : ShortS S := by
  refine ⟨hl, fun s z ok => Nat.le_trans (nodup_len S.objs.length _ (h.nodup s z ok) fun x hx => ?_) hl⟩
  obtain ⟨k, hk, rfl, _⟩ := (h.mem s z ok x).1 hx
  omega
theorem Turned.keeps {w w' : World} {G G' : Ghost} (h : Turned w w' G G') {k : Nat} (hk : k < w.heap.size) (ht : G.tag k = .no) : w'.heap[k]? = w.heap[k]? ∧ G'.tag k = .no := ⟨h.chg.block k hk (.inl ht), (h.tag k hk).trans ht⟩
theorem obj_of_row {w : World} {k : Nat} {x : ObjL} {t : TypeId} (h : w.heap[k]? = some (.cells (ocs x) t (0, 0))) : ObjCells w k 0 x := by
  have hc : ∀ j, w.cell? ⟨k, j, none⟩ = (ocs x)[j]? := fun j => cell_of_row _ _ j _ _ (0, 0) h
  exact ⟨hc 0, hc 1, hc 2, hc 3, hc 4, hc 5, hc 6, hc 7, hc 8, hc 9, hc 10⟩
theorem StoreAt.rowAt {w : World} {lo b k g cap : Nat} {G : Ghost} {S : StoreL} (h : StoreAt w lo b G S) (hk : k < S.objs.length) (hv : G.ov = .slice (some ⟨g, 0, none⟩) S.objs.length cap) :
    ObjCells w g (k * 11) S.objs[k] ∧ ∀ j, w.frozen? ⟨g, j, none⟩ = false := by
  obtain ⟨g', cap', hgv, hc, hf⟩ := own_obj h.ob k hk
  rw [hv] at hgv
  injection hgv with h1 _ _
  injection h1 with h1
  injection h1 with h1 _ _
  subst h1
  exact ⟨hc, hf⟩
def moveL (S : StoreL) (k : Nat) (x : ObjL) (zone : Nat) (under : Bool) : StoreL :=
  let p1 := upd S.pl (keyS x) x.zone.toNat ((S.pl (keyS x) x.zone.toNat).erase ((k : Int) + 1))
  let L := p1 (canN x.owner.toNat zone) zone
  { S with objs := S.objs.set k (freshO S.T ((k : Int) + 1) x.card x.owner zone), pl := upd p1 (canN x.owner.toNat zone) zone (layL L (if under then L.length else 0) ((k : Int) + 1)) }
set_option maxRecDepth 100000 in
set_option maxHeartbeats 8000000 in
theorem move_ok {w : World} {lo b : Nat} {G : Ghost} {S : StoreL} (h : StoreAt w lo b G S) (hS : WfS S) (hl : S.objs.length ≤ 999) (k zone : Nat) (hk : k < S.objs.length) (h1 : 1 ≤ zone) (h7 : zone ≤ 7) (under : Bool) :
    Calls Tryz.prog 32 #[.pointer (some ⟨b, 0, none⟩), .int .i64 ((k : Int) + 1), .int .i64 zone, .bool under] w (RetS w lo b G (moveL S k S.objs[k] zone under) (.int .i64 0)) := by
  have HSS := Lib.hid (hS.short (by omega))
  obtain ⟨i0, i1, i1', i2, i2', i3, i3'⟩ := hS.ids k hk
  have HG := get_in h (by omega) k hk
  have hT := table_short h.ok
  have hn4 := h.n4
  obtain ⟨x, hx⟩ : ∃ x, S.objs[k] = x := ⟨_, rfl⟩
  rw [hx] at i0 i1 i1' i2 i2' i3 i3' HG ⊢
  obtain ⟨x0, x1, x2, x3, x4, x5, x6, x7, x8, x9, x10⟩ := x
  dsimp only at i0 i1 i1' i2 i2' i3 i3'
  obtain ⟨cn, rfl⟩ : ∃ n : Nat, x1 = n := ⟨x1.toNat, by omega⟩
  obtain ⟨on, rfl⟩ : ∃ n : Nat, x2 = n := ⟨x2.toNat, by omega⟩
  obtain ⟨zn, rfl⟩ : ∃ n : Nat, x3 = n := ⟨x3.toNat, by omega⟩
  subst i0
  have okf := canN_ok (n := S.seats) (s := on) (z := zn) (by omega) (by omega) (by omega)
  have okt := canN_ok (n := S.seats) (s := on) (z := zone) (by omega) h1 h7
  unfold RetGet oagg at HG
  dsimp only at HG
  have HGH := Lib.hid HG
  have HH := Lib.hid h
  have HK := Lib.hid (And.intro okf okt)
  have HCN := Lib.hid (show cn < S.T.length by omega)
  have HX := Lib.hid hx
  have HZ : Hid (on ≤ 1000 ∧ zn ≤ 1000 ∧ zone ≤ 1000) := Lib.hid (by omega)
  have HW := Lib.hid hS
  have hmv : moveL S k ⟨(k : Int) + 1, cn, on, zn, x4, x5, x6, x7, x8, x9, x10⟩ zone under =
      { S with objs := S.objs.set k (freshO S.T ((k : Int) + 1) cn on zone), pl := upd (upd S.pl (canN on zn) zn ((S.pl (canN on zn) zn).erase ((k : Int) + 1))) (canN on zone) zone (layL (upd S.pl (canN on zn) zn ((S.pl (canN on zn) zn).erase ((k : Int) + 1)) (canN on zone) zone) (if under then (upd S.pl (canN on zn) zn ((S.pl (canN on zn) zn).erase ((k : Int) + 1)) (canN on zone) zone).length else 0) ((k : Int) + 1)) } := by
    simp [moveL, keyS]
  rw [hmv]
  clear hmv HG h okf okt hx hS i1 i1' i2 i2' i3 i3' h1 h7
  obtain ⟨LF, hLF⟩ : ∃ L, (S.pl (canN on zn) zn).erase ((k : Int) + 1) = L := ⟨_, rfl⟩
  rw [hLF]
  obtain ⟨P1, hP1⟩ : ∃ p, upd S.pl (canN on zn) zn LF = p := ⟨_, rfl⟩
  rw [hP1]
  have HLF := Lib.hid hLF
  have HP1 := Lib.hid hP1
  obtain ⟨S', hS'⟩ : ∃ S', ({ S with objs := S.objs.set k (freshO S.T ((k : Int) + 1) cn on zone), pl := upd P1 (canN on zone) zone (layL (P1 (canN on zone) zone) (if under then (P1 (canN on zone) zone).length else 0) ((k : Int) + 1)) } : StoreL) = S' := ⟨_, rfl⟩
  rw [hS']
  have HS' := Lib.hid hS'
  clear hLF hP1 hS'
  go_enter Tryz.func32, Tryz.ntmps32
  go_wp2_with fail
  refine HGH.out.mono ?_
  rintro e w1 ⟨rfl, hb1⟩
  have H1 := HH.out.later hb1
  have ht0 := H1.high w1.heap.size (Nat.le_refl _)
  obtain ⟨W0, hW0⟩ : ∃ W, w1.alloc (.cells #[.int .i64 ((k : Int) + 1), .int .i64 cn, .int .i64 on, .int .i64 zn, .bool x4, .bool x5, .int .i64 x6, .int .i64 x7, .int .i64 x8, .int .i64 x9, .bool x10] 35) = W := ⟨_, rfl⟩
  have hbx0 : W0.heap[w1.heap.size]? = some (.cells (ocs ⟨(k : Int) + 1, cn, on, zn, x4, x5, x6, x7, x8, x9, x10⟩) 35 (0, 0)) := hW0 ▸ heap_alloc_new w1 _
  have hb0 : Below w.heap.size w W0 := stepB hb1 (hW0 ▸ below_new w1 _)
  obtain ⟨p0, p1, p2, p3, _⟩ := obj_of_row hbx0
  simp only [Nat.zero_add] at p0 p1 p2 p3
  obtain ⟨bx, hbx⟩ : ∃ q, w1.heap.size = q := ⟨_, rfl⟩
  rw [hbx] at hbx0 p0 p1 p2 p3 ht0
  have H0 := Lib.hid (HH.out.later hb0)
  have HB0 := Lib.hid hb0
  have HX0 := Lib.hid hbx0
  have HT0 := Lib.hid ht0
  have HPA := pileAt_any H0.out (wf_nat HZ.out.1) (wf_nat HZ.out.2.2)
  rw [canN_cast, show ptrOf S.seats G.pb (canN on zone : Int) (zone : Int) = .pointer (some ⟨G.pb (canN on zone) zone, 0, none⟩) from if_pos (okI_nat.2 HK.out.2)] at HPA
  obtain ⟨pt, hpt⟩ : ∃ q, G.pb (canN on zone) zone = q := ⟨_, rfl⟩
  rw [hpt] at HPA
  have HPT := Lib.hid hpt
  have HPAH := Lib.hid HPA
  clear HPA hpt hbx0 hb0 hb1 H1 ht0
  go_wp2_with fail
  refine HPAH.out.mono ?_
  rintro e W1 ⟨rfl, hb1⟩
  have H1 := Lib.hid (H0.out.later hb1)
  have HB1 := Lib.hid (stepB HB0.out hb1)
  have hbx1 := (hb1.block bx (Array.getElem?_eq_some_iff.1 HX0.out).1).trans HX0.out
  have HX1 := Lib.hid hbx1
  obtain ⟨p0, p1, p2, p3, _⟩ := obj_of_row hbx1
  simp only [Nat.zero_add] at p0 p1 p2 p3
  have HPB := pileAt_any H1.out (wf_nat HZ.out.1) (wf_nat HZ.out.2.1)
  rw [canN_cast, show ptrOf S.seats G.pb (canN on zn : Int) (zn : Int) = .pointer (some ⟨G.pb (canN on zn) zn, 0, none⟩) from if_pos (okI_nat.2 HK.out.1)] at HPB
  obtain ⟨pf, hpf⟩ : ∃ q, G.pb (canN on zn) zn = q := ⟨_, rfl⟩
  rw [hpf] at HPB
  have HPF := Lib.hid hpf
  have HPBH := Lib.hid HPB
  clear HPB hpf hbx1 hb1 hW0 hbx
  dsimp only
  go_wp2_with fail
  refine HPBH.out.mono ?_
  rintro e W2 ⟨rfl, hb2⟩
  have H2 := Lib.hid (H1.out.later hb2)
  have HB2 := Lib.hid (stepB HB1.out hb2)
  have HX2 := Lib.hid ((hb2.block bx (Array.getElem?_eq_some_iff.1 HX1.out).1).trans HX1.out)
  have hpi := H2.out.pi _ _ HK.out.1
  rw [HPF.out] at hpi
  have HDR := Lib.hid (drop_any ((k : Int) + 1) hpi (HSS.out.2 _ _ HK.out.1))
  clear hpi hb2 p0 p1 p2 p3
  dsimp only
  go_wp2_with fail
  refine HDR.out.mono ?_
  rintro e W3 ⟨rfl, hp3, hc3⟩
  rw [← HPF.out, HLF.out] at hp3
  rw [← HPF.out] at hc3
  obtain ⟨G1, H3', T3, hpb3, hov3, hmb3, htv3⟩ := H2.out.pile HK.out.1 hp3 hc3 (.inl rfl)
  rw [HP1.out] at H3'
  have HPB3 := Lib.hid hpb3
  have H3 := Lib.hid H3'
  have hkp := T3.keeps (Array.getElem?_eq_some_iff.1 HX2.out).1 HT0.out
  have HX3 := Lib.hid (hkp.1.trans HX2.out)
  have HT3 := Lib.hid hkp.2
  have HTA := Lib.hid ((Turned.of_below HB2.out).trans T3)
  have hP1len : (P1 (canN on zone) zone).length ≤ 1000 := by
    rw [← HP1.out]
    unfold upd
    split
    · rw [← HLF.out]
      have := HSS.out.2 _ _ HK.out.1
      have := @List.length_erase_le _ _ ((k : Int) + 1) (S.pl (canN on zn) zn)
      omega
    · exact HSS.out.2 _ _ HK.out.2
  have hpi := H3.out.pi _ _ HK.out.2
  rw [HPB3.out, HPT.out] at hpi
  have HPI := Lib.hid hpi
  have HPL := Lib.hid hP1len
  clear hp3 hc3 H3' T3 hpb3 hov3 hmb3 htv3 hkp hpi hP1len
  dsimp only
  cases under
  · have HPU := Lib.hid (push_any ((k : Int) + 1) HPI.out HPL.out)
    go_wp2_with fail
    refine HPU.out.mono ?_
    rintro e W4 ⟨g', rfl, hp4, hc4, hn4'⟩
    have hq : PileAt W4 lo (G1.pb (canN on zone) zone) g' (layL (P1 (canN on zone) zone) 0 ((k : Int) + 1)) := by rw [HPB3.out, HPT.out]; exact hp4
    have hcq : Chg W3 W4 (G1.pb (canN on zone) zone) (G1.pg (canN on zone) zone) := by rw [HPB3.out, HPT.out]; exact hc4
    obtain ⟨G2, H4', T4, hpb4, hov4, hmb4, htv4⟩ := H3.out.pile HK.out.2 hq hcq hn4'
    have H4 := Lib.hid H4'
    have hkp := T4.keeps (Array.getElem?_eq_some_iff.1 HX3.out).1 HT3.out
    have hbx4 := hkp.1.trans HX3.out
    have HX4 := Lib.hid hbx4
    have HT4 := Lib.hid hkp.2
    have HTB := Lib.hid (HTA.out.trans T4)
    obtain ⟨p0, p1, p2, p3, _⟩ := obj_of_row hbx4
    simp only [Nat.zero_add] at p0 p1 p2 p3
    obtain ⟨xa, xc, hov⟩ := own_form H4.out.ob
    have c2 : W4.cell? ⟨b, 2, none⟩ = some (.slice xa S.objs.length xc) := by rw [cell_of_row W4 b 2 _ _ _ H4.out.hd, hov]; rfl
    have HOV := Lib.hid hov
    obtain ⟨y, hy⟩ : ∃ y, freshO S.T ((k : Int) + 1) cn on zone = y := ⟨_, rfl⟩
    have HF : Hid (∀ w' : World, Below W4.heap.size W4 w' → Calls Tryz.prog 63 #[.pointer (some ⟨b, 0, none⟩), .int .i64 ((k : Int) + 1), .int .i64 cn, .int .i64 on, .int .i64 zone] w' fun e w'' => e = .returned (.agg (ocs y)) ∧ Below w'.heap.size w' w'') := Lib.hid fun w' hb => by
      have hf := fresh_any (H4.out.later hb) ((k : Int) + 1) on zone cn HCN.out
      rw [hy] at hf
      exact hf
    unfold ocs at HF
    have HY := Lib.hid hy
    have d2 : (k : Int) + 1 - 1 = k := by omega
    have dw : IntKind.i64.wrap (k : Int) = k := IntWalk.i64_in _ (by omega)
    have HKL := Lib.hid hk
    have d3 : (0 : Int) ≤ k := by omega
    have d4 : (k : Int) < S.objs.length := by omega
    have d5 : k < S.objs.length := hk
    obtain ⟨g, cap, hgv, _, _⟩ := own_obj H4.out.ob k hk
    have hga : xa = some ⟨g, 0, none⟩ ∧ xc = cap := by
      have hgv : G2.ov = .slice (some ⟨g, 0, none⟩) S.objs.length cap := hgv
      rw [hov] at hgv
      injection hgv with h1 _ h2
      exact ⟨h1, h2⟩
    obtain ⟨rfl, rfl⟩ := hga
    clear hp4 hc4 hn4' hq hcq H4' T4 hpb4 hov4 hmb4 htv4 hkp hbx4 hov hy hgv
    dsimp only
    go_wp2
    have HR := Lib.hid (fun (w' : World) (hb : Below W4.heap.size W4 w') => (H4.out.later hb).rowAt hk HOV.out)
    go_region_with ((go_at_call 63; refine (HF.out _ (below_drewN (Below.refl _ _) _)).mono ?_; rintro e W5 ⟨rfl, hb5⟩; have hb5' := stepB (below_drewN (Below.refl W4.heap.size W4) _) hb5; have c2' := cell_stays hb5' c2; have p1' := cell_stays hb5' p1; obtain ⟨⟨o0, o1, o2, o3, o4, o5, o6, o7, o8, o9, o10⟩, hfr⟩ := HR.out W5 hb5'; dsimp only))
    all_goals
      go_wp2
      go_ret
      have H5 := H4.out.later hb5'
      obtain ⟨G3, h1, h2⟩ := H5.setObj hk HOV.out y
      rw [setCells_obj] at h1 h2
      refine ⟨rfl, G3, ?_, (HTB.out.trans (Turned.of_below hb5')).trans h2⟩
      rw [← HS'.out, HY.out]
      exact h1
  · have HPU := Lib.hid (under_any ((k : Int) + 1) HPI.out HPL.out)
    go_wp2_with fail
    refine HPU.out.mono ?_
    rintro e W4 ⟨g', rfl, hp4, hc4, hn4'⟩
    have hq : PileAt W4 lo (G1.pb (canN on zone) zone) g' (layL (P1 (canN on zone) zone) (P1 (canN on zone) zone).length ((k : Int) + 1)) := by rw [HPB3.out, HPT.out]; exact hp4
    have hcq : Chg W3 W4 (G1.pb (canN on zone) zone) (G1.pg (canN on zone) zone) := by rw [HPB3.out, HPT.out]; exact hc4
    obtain ⟨G2, H4', T4, hpb4, hov4, hmb4, htv4⟩ := H3.out.pile HK.out.2 hq hcq hn4'
    have H4 := Lib.hid H4'
    have hkp := T4.keeps (Array.getElem?_eq_some_iff.1 HX3.out).1 HT3.out
    have hbx4 := hkp.1.trans HX3.out
    have HX4 := Lib.hid hbx4
    have HT4 := Lib.hid hkp.2
    have HTB := Lib.hid (HTA.out.trans T4)
    obtain ⟨p0, p1, p2, p3, _⟩ := obj_of_row hbx4
    simp only [Nat.zero_add] at p0 p1 p2 p3
    obtain ⟨xa, xc, hov⟩ := own_form H4.out.ob
    have c2 : W4.cell? ⟨b, 2, none⟩ = some (.slice xa S.objs.length xc) := by rw [cell_of_row W4 b 2 _ _ _ H4.out.hd, hov]; rfl
    have HOV := Lib.hid hov
    obtain ⟨y, hy⟩ : ∃ y, freshO S.T ((k : Int) + 1) cn on zone = y := ⟨_, rfl⟩
    have HF : Hid (∀ w' : World, Below W4.heap.size W4 w' → Calls Tryz.prog 63 #[.pointer (some ⟨b, 0, none⟩), .int .i64 ((k : Int) + 1), .int .i64 cn, .int .i64 on, .int .i64 zone] w' fun e w'' => e = .returned (.agg (ocs y)) ∧ Below w'.heap.size w' w'') := Lib.hid fun w' hb => by
      have hf := fresh_any (H4.out.later hb) ((k : Int) + 1) on zone cn HCN.out
      rw [hy] at hf
      exact hf
    unfold ocs at HF
    have HY := Lib.hid hy
    have d2 : (k : Int) + 1 - 1 = k := by omega
    have dw : IntKind.i64.wrap (k : Int) = k := IntWalk.i64_in _ (by omega)
    have HKL := Lib.hid hk
    have d3 : (0 : Int) ≤ k := by omega
    have d4 : (k : Int) < S.objs.length := by omega
    have d5 : k < S.objs.length := hk
    obtain ⟨g, cap, hgv, _, _⟩ := own_obj H4.out.ob k hk
    have hga : xa = some ⟨g, 0, none⟩ ∧ xc = cap := by
      have hgv : G2.ov = .slice (some ⟨g, 0, none⟩) S.objs.length cap := hgv
      rw [hov] at hgv
      injection hgv with h1 _ h2
      exact ⟨h1, h2⟩
    obtain ⟨rfl, rfl⟩ := hga
    clear hp4 hc4 hn4' hq hcq H4' T4 hpb4 hov4 hmb4 htv4 hkp hbx4 hov hy hgv
    dsimp only
    go_wp2
    have HR := Lib.hid (fun (w' : World) (hb : Below W4.heap.size W4 w') => (H4.out.later hb).rowAt hk HOV.out)
    go_region_with ((go_at_call 63; refine (HF.out _ (below_drewN (Below.refl _ _) _)).mono ?_; rintro e W5 ⟨rfl, hb5⟩; have hb5' := stepB (below_drewN (Below.refl W4.heap.size W4) _) hb5; have c2' := cell_stays hb5' c2; have p1' := cell_stays hb5' p1; obtain ⟨⟨o0, o1, o2, o3, o4, o5, o6, o7, o8, o9, o10⟩, hfr⟩ := HR.out W5 hb5'; dsimp only))
    all_goals
      go_wp2
      go_ret
      have H5 := H4.out.later hb5'
      obtain ⟨G3, h1, h2⟩ := H5.setObj hk HOV.out y
      rw [setCells_obj] at h1 h2
      refine ⟨rfl, G3, ?_, (HTB.out.trans (Turned.of_below hb5')).trans h2⟩
      rw [← HS'.out, HY.out]
      exact h1
end Go.Proofs.YtgjojjhppgjkkaaGreat
