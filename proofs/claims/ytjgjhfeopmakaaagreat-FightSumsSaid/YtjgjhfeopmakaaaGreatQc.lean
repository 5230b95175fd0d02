/- The creatures on the Field of which something is so, in its order; who attacks, who blocks (layer 17). -/
import Derived.Test.YtjgjhfeopmakaaaGreatQb
import Derived.RangeFuncRecord
import Derived.RangeFuncLeaves
import Derived.RangeFuncFrom
namespace Go.Proofs.YtjgjhfeopmakaaaGreat
open Go.RowKit Go.Maps
attribute [local go_sem] Oper.semAt_some

def crsL (S : StoreL) : List Int := (strL S (fieldL S [])).map Prod.fst
def selP (S : StoreL) (p : ObjL → Bool) (l : List Int) : List Int := l.filter fun i => p (objI S i)
theorem selP_snoc (S : StoreL) (p : ObjL → Bool) (l : List Int) (x : Int) : selP S p (l ++ [x]) = if p (objI S x) then selP S p l ++ [x] else selP S p l := by
  unfold selP
  rw [List.filter_append]
  by_cases h : p (objI S x) = true
  · simp [h]
  · simp [h]
theorem selP_len (S : StoreL) (p : ObjL → Bool) (l : List Int) : (selP S p l).length ≤ l.length := List.length_filter_le _ _
theorem none17 (w : World) : IntsAt w (.slice none 0 0) [] := .inl ⟨none, 0, rfl, rfl⟩
theorem fieldL_len17 {S : StoreL} (hS : WfS S) (hl : S.objs.length ≤ 999) (hn : 1 ≤ S.seats) : (fieldL S []).length ≤ 999 := by
  refine Nat.le_trans (selO_len _ _ _) ?_
  have hk : okK S.seats 0 3 := ⟨by omega, by decide, by decide, fun _ => rfl⟩
  refine Nat.le_trans (nodup_len S.objs.length _ (hS.nodup 0 3 hk) (fun x hx => ?_)) hl
  obtain ⟨k, hk2, rfl, _⟩ := (hS.mem 0 3 hk x).1 hx
  omega
theorem crsL_len {S : StoreL} (hS : WfS S) (hl : S.objs.length ≤ 999) (hn : 1 ≤ S.seats) : (strL S (fieldL S [])).length ≤ 999 := by
  unfold strL
  rw [List.length_map]
  exact Nat.le_trans (List.length_filter_le _ _) (fieldL_len17 hS hl hn)
/-- What the loop over the creatures holds. -/
def CreI (S : StoreL) (p : ObjL → Bool) (q : Nat) (A Wr : World) (pre : List (Int × Int)) (W : World) : Prop :=
  ∃ v, ListIn W q (q + 2) v (selP S p (pre.map Prod.fst)) ∧ KpP (fun _ => False) (fun k => k = q + 2) Wr W ∧ Below A.heap.size A W ∧ pre.length ≤ 999
theorem creI_own {S : StoreL} {p : ObjL → Bool} {q : Nat} {A Wr : World} {B : Nat} (hB : A.heap.size ≤ B) (hB5 : Wr.heap.size ≤ B) : OwnFrom B (CreI S p q A Wr) := by
  rintro s X Y row ⟨v, h1, h2, h3, h4⟩ hg hr
  have hr' : ∀ r, row = some r → ∃ o : Obj, X.heap[r]? = some o ∧ o.isCells = false := fun r e => (hr r e).2
  exact ⟨v, h1.grown hg hr', kpP_own (β := Unit) hB5 () X Y row h2 hg hr, ownFrom_below (β := Unit) (Nat.le_refl _) hB () X Y row h3 hg hr, h4⟩
set_option maxRecDepth 100000 in
set_option maxHeartbeats 16000000 in
theorem creat1_in {w : World} {lo : Nat} {g : GhostB} {B : BoardL} (h : BoardAt w lo g B) (c1 : Nat) (p : ObjL → Bool) (hp : ∀ (o : ObjL) (W : World), Below w.heap.size w W → Calls Tryz.prog 89 #[oagg o, .pointer (some ⟨c1, 0, none⟩)] W (RetV W (.bool (p o)))) :
    CallsIn Fence.wide 9 Tryz.prog 76 #[.pointer (some ⟨g.q, 0, none⟩), .func (.func 89) #[] #[.pointer (some ⟨c1, 0, none⟩)]] w (RetList w (selP B.S p (crsL B.S))) := by
  have HLEN := Lib.hid (crsL_len h.wf h.len h.st.n1)
  have HH := Lib.hid h
  have HP := Lib.hid hp
  have HGET := Lib.hid (fun (W : World) (hb : Below w.heap.size w W) (i : Int) => getI_any (h.later hb) i)
  have HC := Lib.hid (fun (W : World) (hb : Below w.heap.size w W) => (h.later hb).cells.1)
  have c0 := h.cells.1
  have hb1 := below_new w (.cells #[.pointer (some ⟨g.q, 0, none⟩)] 26)
  have hb2 := below_new (w.alloc (.cells #[.pointer (some ⟨g.q, 0, none⟩)] 26)) (.cells #[.func (.func 89) #[] #[.pointer (some ⟨c1, 0, none⟩)]] 127)
  have hb3 := below_new ((w.alloc (.cells #[.pointer (some ⟨g.q, 0, none⟩)] 26)).alloc (.cells #[.func (.func 89) #[] #[.pointer (some ⟨c1, 0, none⟩)]] 127)) (.cells #[.slice none 0 0] 79)
  have hs0 := ((HdAt.new w (.pointer (some ⟨g.q, 0, none⟩)) 26).later hb2).later hb3
  have hs1 := (HdAt.new (w.alloc (.cells #[.pointer (some ⟨g.q, 0, none⟩)] 26)) (.func (.func 89) #[] #[.pointer (some ⟨c1, 0, none⟩)]) 127).later hb3
  have hl0 : ListIn (((w.alloc (.cells #[.pointer (some ⟨g.q, 0, none⟩)] 26)).alloc (.cells #[.func (.func 89) #[] #[.pointer (some ⟨c1, 0, none⟩)]] 127)).alloc (.cells #[.slice none 0 0] 79)) w.heap.size (w.heap.size + 2) (.slice none 0 0) [] :=
    ⟨by have e := heap_alloc_new ((w.alloc (.cells #[.pointer (some ⟨g.q, 0, none⟩)] 26)).alloc (.cells #[.func (.func 89) #[] #[.pointer (some ⟨c1, 0, none⟩)]] 127)) (.cells #[.slice none 0 0] 79); simpa using e, World.ownsRow_nil _ _ _ _⟩
  have hbb := stepB (stepB hb1 hb2) hb3
  obtain ⟨Wc, hWc⟩ : ∃ Wc, ((w.alloc (.cells #[.pointer (some ⟨g.q, 0, none⟩)] 26)).alloc (.cells #[.func (.func 89) #[] #[.pointer (some ⟨c1, 0, none⟩)]] 127)).alloc (.cells #[.slice none 0 0] 79) = Wc := ⟨_, rfl⟩
  have hsz : Wc.heap.size = w.heap.size + 3 := by rw [← hWc]; simp
  rw [hWc] at hs0 hs1 hl0 hbb
  simp only [World.size_alloc] at hs1
  have HSZ := Lib.hid hsz
  have HS0 := Lib.hid hs0
  have HS1 := Lib.hid hs1
  have HL0 := Lib.hid hl0
  have HBB := Lib.hid hbb
  have cc0 := HC.out _ HBB.out
  have cc1 := hs0.cell
  have HST := Lib.hid (strong_any (some ⟨g.b, 0, none⟩) (none17 Wc) (by simp))
  clear hb1 hb2 hb3 hs0 hs1 hl0 hbb h hp hsz
  obtain ⟨q, b, tb, s, r0, G⟩ := g
  dsimp only at c0 cc0 cc1 HC HS0 HST HGET hWc ⊢
  refine callsIn_of_wp_marks Tryz.func76 rfl trivial ?_ rfl
  simp only [Tryz.ntmps76, List.size_toArray, List.length_cons, List.length_nil, Nat.reduceAdd, Nat.reduceSub, Array.replicate_succ, Array.replicate_zero, List.push_toArray, List.append_toArray, List.nil_append, List.cons_append]
  gi_wp2_with fail
  refine ⟨trivial, (callsIn_wide.2 HST.out).mono ?_⟩
  rintro e wr ⟨qf, d1, d2, u, rfl, k1, k2, k2a, k2b, k3, k4, k5, k6, hbr⟩
  have HBR := Lib.hid (stepB HBB.out hbr)
  have HSB := Lib.hid (HS0.out.later hbr)
  have HSF := Lib.hid (HS1.out.later hbr)
  have HLB := Lib.hid (HL0.out.later hbr)
  obtain ⟨qq, hqq⟩ : ∃ qq, w.heap.size = qq := ⟨_, rfl⟩
  have HQQ := Lib.hid hqq
  rw [HSZ.out, hqq] at k1
  have HSR := Lib.hid (show qq + 3 ≤ wr.heap.size by have := hbr.size; rw [HSZ.out, hqq] at this; exact this)
  have HSEQ := Lib.hid (strong_seq 8 (by omega) (w := wr) (fun _ => False) (fun k => k = qq + 2) (fun _ e => e.elim) (fun _ e => e.elim) (fun c hc => by subst hc; refine ⟨_, (hqq ▸ HLB.out).head, fun k hk => by simp [Value.ownBlock] at hk⟩) (fun k hk => by
      refine off_one (hqq ▸ HLB.out).head ?_ (by simp [Value.ownBlock])
      rcases hk with hk | hk
      · have hlt := Nat.lt_of_not_le (fun e => hk (HH.out.st.high k e))
        omega
      · omega) k3 k1 (fun e => e) k4 k5 (HH.out.later HBR.out).st HH.out.wf (by have := HH.out.len; omega) k6 (by simp))
  rw [hqq] at HSB HSF
  have HOF := Lib.hid (show ∀ k, k ≠ qq + 2 → Off (fun k => k = qq + 2) wr k from fun k hk => off_one (hqq ▸ HLB.out).head hk (by simp [Value.ownBlock]))
  have HI0 : Hid (CreI B.S p qq w wr [] wr) := Lib.hid ⟨.slice none 0 0, (by have := HLB.out; rw [hqq] at this; exact this), KpP.refl _ _ _, HBR.out, Nat.zero_le _⟩
  clear k1 k2 k2a k2b k3 k4 k5 k6 hbr HS0 HL0 HLB HS1 HST HBB c0 cc0 cc1 hWc
  rw [HSZ.out]
  simp only [hqq]
  gi_wp2_with fail
  refine range_world3 rfl (by omega) (I := CreI B.S p qq w wr) (Ix := fun _ _ _ => False) (gf := 116) (lb := _) rfl trivial (fun _ _ => by kernel_rfl) HSEQ.out KpP.trans (fun W' o o' ho hc _ => KpP.put o' (.inr rfl) ho hc) (fun W W' hb => KpP.of_below _ _ hb) (Below.refl _ _) (fun _ => rfl)
    (creI_own HBR.out.size (Nat.le_refl _)) (fun c s A B row hs hg hr => hs) (fun s A B row hs hg hr => hs) (fun s A B row hs hg hr => hs) HI0.out ?round ?done ?stop
  case stop =>
    rintro D c pre W hD hS hI hK
    exact hI.elim
  case round =>
    rintro pre ⟨x, pw⟩ W K hI hT hsz hK
    have hsn := selP_snoc B.S p (pre.map Prod.fst) x
    have HTL := Lib.hid (show pre.length + 1 ≤ 999 from by have h1 := hT.length_le; have h2 := HLEN.out; simp at h1; omega)
    have HK := Lib.hid hK
    clear hK hT hI
    simp only [encP]
    simp
    gi_wp2
    refine HK.out _ _ (Below.refl _ _) ?_
    clear HK
    intro Wb hsz2 hrest hkw ⟨v1, l0, k0, b0, hl1⟩
    have HKB := Lib.hid hkw
    have c2 := (box_kept HSB.out k0 (fun e => e) (HOF.out _ (by omega))).cell
    have c3 := (box_kept HSF.out k0 (fun e => e) (HOF.out _ (by omega))).cell
    have c5 := l0.head.cell
    have cq := HC.out Wb b0
    have HG := Lib.hid (HGET.out Wb b0 x)
    obtain ⟨o, ho⟩ : ∃ o, objI B.S x = o := ⟨_, rfl⟩
    obtain ⟨n, hn⟩ : ∃ n, errI B.S x = n := ⟨_, rfl⟩
    rw [ho] at hsn
    rw [ho, hn] at HG
    have HPO := Lib.hid (fun (W' : World) (hb : Below Wb.heap.size Wb W') => HP.out o W' (stepB b0 hb))
    obtain ⟨z, hz⟩ : ∃ z, p o = z := ⟨_, rfl⟩
    rw [hz] at hsn HPO
    obtain ⟨x0, x1, x2, x3, x4, x5, x6, x7, x8, x9, x10⟩ := o
    unfold RetGet oagg at HG
    unfold oagg at HPO
    dsimp only at HG HPO
    obtain ⟨xa1, xc1, hv1⟩ := own_form l0.own
    subst hv1
    have HSN := Lib.hid hsn
    have HL1 := Lib.hid l0
    have HK1 := Lib.hid k0
    have HB1 := Lib.hid b0
    clear hsz2 hrest hkw l0 k0 b0 hl1 hsn ho hn hz
    gi_wp2_with fail
    refine ⟨trivial, (callsIn_wide.2 HG.out).mono ?_⟩
    rintro e w5 ⟨rfl, hb5⟩
    have hb6 := below_alloc2 hb5 (.cells #[.int .i64 x0, .int .i64 x1, .int .i64 x2, .int .i64 x3, .bool x4, .bool x5, .int .i64 x6, .int .i64 x7, .int .i64 x8, .int .i64 x9, .bool x10] 30)
    have HQ := Lib.hid (show ∀ j, (w5.alloc (.cells #[.int .i64 x0, .int .i64 x1, .int .i64 x2, .int .i64 x3, .bool x4, .bool x5, .int .i64 x6, .int .i64 x7, .int .i64 x8, .int .i64 x9, .bool x10] 30)).cell? ⟨w5.heap.size, j, none⟩ = (#[.int .i64 x0, .int .i64 x1, .int .i64 x2, .int .i64 x3, .bool x4, .bool x5, .int .i64 x6, .int .i64 x7, .int .i64 x8, .int .i64 x9, .bool x10] : Array Value)[j]? from fun j => cell_of_row _ _ j _ _ (0, 0) (heap_alloc_new w5 _))
    have HB6 := Lib.hid hb6
    have c3a := cell_stays hb6 c3
    have HC5 := Lib.hid (cell_stays hb6 c5)
    clear hb5 hb6 c2 c3 c5 cq HG
    dsimp only
    gi_wp2_with fail
    refine ⟨trivial, (callsIn_wide.2 (HPO.out _ HB6.out)).mono ?_⟩
    rintro e w7 ⟨rfl, hb7⟩
    have hb8 := stepB HB6.out hb7
    have HL5 := Lib.hid (HL1.out.later hb8)
    have HK5 := Lib.hid (HK1.out.trans (KpP.of_below _ _ hb8))
    have HKW := Lib.hid (KpP.of_below (fun _ => False) (fun k => k = qq + 2) hb8)
    have HB5 := Lib.hid (stepB HB1.out hb8)
    have c5 := cell_stays hb7 HC5.out
    clear hb7 hb8 c3a HC5 HPO HQ
    dsimp only
    cases z
    · gi_wp2
      have hL := HL5.out
      have hsn := HSN.out
      rw [if_neg (by decide)] at hsn
      rw [← hsn] at hL
      exact ⟨HKW.out.from (fun k e => e.elim), HKB.out.trans (HKW.out.mono (fun k e => e.elim)), _, by simpa using hL, HK5.out, HB5.out, by rw [List.length_append]; exact HTL.out⟩
    · rw [if_pos rfl] at HSN
      have hlen : (selP B.S p (pre.map Prod.fst)).length + [x].length ≤ 1000 := by have := selP_len B.S p (pre.map Prod.fst); have := HTL.out; simp at *; omega
      have hlo : qq ≤ (w7.alloc (.cells #[.int .i64 x] 3)).heap.size := by have h1 := HB5.out.size; have h2 := HQQ.out; simp; omega
      gi_wp2_with (gi_at_builtin; refine wpListIn_append_ints rfl _ _ rfl rfl qq _ (selP B.S p (pre.map Prod.fst)).length (intsV (selP B.S p (pre.map Prod.fst))) rfl (own_later HL5.out.own (below_new w7 _)) _ 1 1 [x] rfl rfl ((RowAt.new _ 3 (intsV [x])).vals 1) hlen hlo ?f)
      case f =>
        intro v' w8 hown hgrow hnew
        have hsep : ∀ c, c = qq + 2 → (Value.slice xa1 (selP B.S p (pre.map Prod.fst)).length xc1).ownBlock ≠ some c := fun c hc e => by subst hc; exact (HL5.out.row _ e).2.2 rfl
        obtain ⟨l7, k7, h6⟩ := ListIn.snoc (E := fun _ => False) (H := fun k => k = qq + 2) HL5.out rfl hgrow hown (by rw [World.size_alloc]; exact hnew) hsep
        have c6 := h6.cell
        have f6 := h6.frozen
        have hqw := HQQ.out
        have HB7 := Lib.hid (show Below w.heap.size w (w8.setCell ⟨qq + 2, 0, none⟩ v') from ((HB5.out.alloc HB5.out.size _).grown hgrow (by have := HB5.out.size; simp; omega) (fun c e => by have := (HL5.out.row c e).1; have h2 := HQQ.out; omega)).setCell (by have h2 := HQQ.out; show w.heap.size ≤ qq + 2; omega) v')
        obtain ⟨xa7, xc7, hv7⟩ := own_form hown
        subst hv7
        have HL7 := Lib.hid l7
        have HK7 := Lib.hid k7
        clear hown hgrow hnew hsep l7 k7 h6 hlen hlo hqw c5
        gi_wp2
        have hL := HL7.out
        rw [← HSN.out] at hL
        have HK8 := HKW.out.trans HK7.out
        exact ⟨HK8.from (fun k e => e.elim), HKB.out.trans (HK8.mono (fun k e => e.elim)), _, by simpa using hL, HK5.out.trans HK7.out, HB7.out, by rw [List.length_append]; exact HTL.out⟩
  case done =>
    rintro D ys W hD hS ⟨v1, l0, k0, b0, hl1⟩ hK
    have hS' : ys.map Prod.fst = crsL B.S := by rw [show ys = strL B.S (fieldL B.S []) from hS]; rfl
    rw [hS'] at l0
    have cl := l0.head.cell
    have HL1 := Lib.hid l0
    have HB1 := Lib.hid b0
    have HK1 := Lib.hid hK
    have HD := Lib.hid (show qq + 3 ≤ D from by have := HSR.out; have h2 : wr.heap.size ≤ D := hD; omega)
    obtain ⟨xa1, xc1, rfl⟩ := own_form l0.own
    clear l0 k0 b0 hK hS hS' hl1 hD
    gi_wp2
    refine ⟨by simp, .inl ⟨_, _, rfl, run_takeDeferred HK1.out, ?_⟩⟩
    refine ⟨_, results_tmp rfl _ _ _, _, rfl, by rw [HQQ.out]; exact ownsRow_putObj HL1.out.own _ HK1.out rfl, ?_⟩
    exact HB1.out.trans (belowK_b (w := w) (Nat.le_refl _) W D _ _ (by have := HD.out; have := HQQ.out; omega) HK1.out rfl rfl)
theorem creat1_any {w : World} {lo : Nat} {g : GhostB} {B : BoardL} (h : BoardAt w lo g B) (c1 : Nat) (p : ObjL → Bool) (hp : ∀ (o : ObjL) (W : World), Below w.heap.size w W → Calls Tryz.prog 89 #[oagg o, .pointer (some ⟨c1, 0, none⟩)] W (RetV W (.bool (p o)))) :
    Calls Tryz.prog 76 #[.pointer (some ⟨g.q, 0, none⟩), .func (.func 89) #[] #[.pointer (some ⟨c1, 0, none⟩)]] w (RetList w (selP B.S p (crsL B.S))) := (callsIn_wide (n := 9)).1 (creat1_in h c1 p hp)
set_option maxRecDepth 100000 in
set_option maxHeartbeats 16000000 in
theorem creat2_in {w : World} {lo : Nat} {g : GhostB} {B : BoardL} (h : BoardAt w lo g B) (c1 c2 : Nat) (p : ObjL → Bool) (hp : ∀ (o : ObjL) (W : World), Below w.heap.size w W → Calls Tryz.prog 77 #[oagg o, .pointer (some ⟨c1, 0, none⟩), .pointer (some ⟨c2, 0, none⟩)] W (RetV W (.bool (p o)))) :
    CallsIn Fence.wide 9 Tryz.prog 76 #[.pointer (some ⟨g.q, 0, none⟩), .func (.func 77) #[] #[.pointer (some ⟨c1, 0, none⟩), .pointer (some ⟨c2, 0, none⟩)]] w (RetList w (selP B.S p (crsL B.S))) := by
  have HLEN := Lib.hid (crsL_len h.wf h.len h.st.n1)
  have HH := Lib.hid h
  have HP := Lib.hid hp
  have HGET := Lib.hid (fun (W : World) (hb : Below w.heap.size w W) (i : Int) => getI_any (h.later hb) i)
  have HC := Lib.hid (fun (W : World) (hb : Below w.heap.size w W) => (h.later hb).cells.1)
  have c0 := h.cells.1
  have hb1 := below_new w (.cells #[.pointer (some ⟨g.q, 0, none⟩)] 26)
  have hb2 := below_new (w.alloc (.cells #[.pointer (some ⟨g.q, 0, none⟩)] 26)) (.cells #[.func (.func 77) #[] #[.pointer (some ⟨c1, 0, none⟩), .pointer (some ⟨c2, 0, none⟩)]] 127)
  have hb3 := below_new ((w.alloc (.cells #[.pointer (some ⟨g.q, 0, none⟩)] 26)).alloc (.cells #[.func (.func 77) #[] #[.pointer (some ⟨c1, 0, none⟩), .pointer (some ⟨c2, 0, none⟩)]] 127)) (.cells #[.slice none 0 0] 79)
  have hs0 := ((HdAt.new w (.pointer (some ⟨g.q, 0, none⟩)) 26).later hb2).later hb3
  have hs1 := (HdAt.new (w.alloc (.cells #[.pointer (some ⟨g.q, 0, none⟩)] 26)) (.func (.func 77) #[] #[.pointer (some ⟨c1, 0, none⟩), .pointer (some ⟨c2, 0, none⟩)]) 127).later hb3
  have hl0 : ListIn (((w.alloc (.cells #[.pointer (some ⟨g.q, 0, none⟩)] 26)).alloc (.cells #[.func (.func 77) #[] #[.pointer (some ⟨c1, 0, none⟩), .pointer (some ⟨c2, 0, none⟩)]] 127)).alloc (.cells #[.slice none 0 0] 79)) w.heap.size (w.heap.size + 2) (.slice none 0 0) [] :=
    ⟨by have e := heap_alloc_new ((w.alloc (.cells #[.pointer (some ⟨g.q, 0, none⟩)] 26)).alloc (.cells #[.func (.func 77) #[] #[.pointer (some ⟨c1, 0, none⟩), .pointer (some ⟨c2, 0, none⟩)]] 127)) (.cells #[.slice none 0 0] 79); simpa using e, World.ownsRow_nil _ _ _ _⟩
  have hbb := stepB (stepB hb1 hb2) hb3
  obtain ⟨Wc, hWc⟩ : ∃ Wc, ((w.alloc (.cells #[.pointer (some ⟨g.q, 0, none⟩)] 26)).alloc (.cells #[.func (.func 77) #[] #[.pointer (some ⟨c1, 0, none⟩), .pointer (some ⟨c2, 0, none⟩)]] 127)).alloc (.cells #[.slice none 0 0] 79) = Wc := ⟨_, rfl⟩
  have hsz : Wc.heap.size = w.heap.size + 3 := by rw [← hWc]; simp
  rw [hWc] at hs0 hs1 hl0 hbb
  simp only [World.size_alloc] at hs1
  have HSZ := Lib.hid hsz
  have HS0 := Lib.hid hs0
  have HS1 := Lib.hid hs1
  have HL0 := Lib.hid hl0
  have HBB := Lib.hid hbb
  have cc0 := HC.out _ HBB.out
  have cc1 := hs0.cell
  have HST := Lib.hid (strong_any (some ⟨g.b, 0, none⟩) (none17 Wc) (by simp))
  clear hb1 hb2 hb3 hs0 hs1 hl0 hbb h hp hsz
  obtain ⟨q, b, tb, s, r0, G⟩ := g
  dsimp only at c0 cc0 cc1 HC HS0 HST HGET hWc ⊢
  refine callsIn_of_wp_marks Tryz.func76 rfl trivial ?_ rfl
  simp only [Tryz.ntmps76, List.size_toArray, List.length_cons, List.length_nil, Nat.reduceAdd, Nat.reduceSub, Array.replicate_succ, Array.replicate_zero, List.push_toArray, List.append_toArray, List.nil_append, List.cons_append]
  gi_wp2_with fail
  refine ⟨trivial, (callsIn_wide.2 HST.out).mono ?_⟩
  rintro e wr ⟨qf, d1, d2, u, rfl, k1, k2, k2a, k2b, k3, k4, k5, k6, hbr⟩
  have HBR := Lib.hid (stepB HBB.out hbr)
  have HSB := Lib.hid (HS0.out.later hbr)
  have HSF := Lib.hid (HS1.out.later hbr)
  have HLB := Lib.hid (HL0.out.later hbr)
  obtain ⟨qq, hqq⟩ : ∃ qq, w.heap.size = qq := ⟨_, rfl⟩
  have HQQ := Lib.hid hqq
  rw [HSZ.out, hqq] at k1
  have HSR := Lib.hid (show qq + 3 ≤ wr.heap.size by have := hbr.size; rw [HSZ.out, hqq] at this; exact this)
  have HSEQ := Lib.hid (strong_seq 8 (by omega) (w := wr) (fun _ => False) (fun k => k = qq + 2) (fun _ e => e.elim) (fun _ e => e.elim) (fun c hc => by subst hc; refine ⟨_, (hqq ▸ HLB.out).head, fun k hk => by simp [Value.ownBlock] at hk⟩) (fun k hk => by
      refine off_one (hqq ▸ HLB.out).head ?_ (by simp [Value.ownBlock])
      rcases hk with hk | hk
      · have hlt := Nat.lt_of_not_le (fun e => hk (HH.out.st.high k e))
        omega
      · omega) k3 k1 (fun e => e) k4 k5 (HH.out.later HBR.out).st HH.out.wf (by have := HH.out.len; omega) k6 (by simp))
  rw [hqq] at HSB HSF
  have HOF := Lib.hid (show ∀ k, k ≠ qq + 2 → Off (fun k => k = qq + 2) wr k from fun k hk => off_one (hqq ▸ HLB.out).head hk (by simp [Value.ownBlock]))
  have HI0 : Hid (CreI B.S p qq w wr [] wr) := Lib.hid ⟨.slice none 0 0, (by have := HLB.out; rw [hqq] at this; exact this), KpP.refl _ _ _, HBR.out, Nat.zero_le _⟩
  clear k1 k2 k2a k2b k3 k4 k5 k6 hbr HS0 HL0 HLB HS1 HST HBB c0 cc0 cc1 hWc
  rw [HSZ.out]
  simp only [hqq]
  gi_wp2_with fail
  refine range_world3 rfl (by omega) (I := CreI B.S p qq w wr) (Ix := fun _ _ _ => False) (gf := 116) (lb := _) rfl trivial (fun _ _ => by kernel_rfl) HSEQ.out KpP.trans (fun W' o o' ho hc _ => KpP.put o' (.inr rfl) ho hc) (fun W W' hb => KpP.of_below _ _ hb) (Below.refl _ _) (fun _ => rfl)
    (creI_own HBR.out.size (Nat.le_refl _)) (fun c s A B row hs hg hr => hs) (fun s A B row hs hg hr => hs) (fun s A B row hs hg hr => hs) HI0.out ?round ?done ?stop
  case stop =>
    rintro D c pre W hD hS hI hK
    exact hI.elim
  case round =>
    rintro pre ⟨x, pw⟩ W K hI hT hsz hK
    have hsn := selP_snoc B.S p (pre.map Prod.fst) x
    have HTL := Lib.hid (show pre.length + 1 ≤ 999 from by have h1 := hT.length_le; have h2 := HLEN.out; simp at h1; omega)
    have HK := Lib.hid hK
    clear hK hT hI
    simp only [encP]
    simp
    gi_wp2
    refine HK.out _ _ (Below.refl _ _) ?_
    clear HK
    intro Wb hsz2 hrest hkw ⟨v1, l0, k0, b0, hl1⟩
    have HKB := Lib.hid hkw
    have c2 := (box_kept HSB.out k0 (fun e => e) (HOF.out _ (by omega))).cell
    have c3 := (box_kept HSF.out k0 (fun e => e) (HOF.out _ (by omega))).cell
    have c5 := l0.head.cell
    have cq := HC.out Wb b0
    have HG := Lib.hid (HGET.out Wb b0 x)
    obtain ⟨o, ho⟩ : ∃ o, objI B.S x = o := ⟨_, rfl⟩
    obtain ⟨n, hn⟩ : ∃ n, errI B.S x = n := ⟨_, rfl⟩
    rw [ho] at hsn
    rw [ho, hn] at HG
    have HPO := Lib.hid (fun (W' : World) (hb : Below Wb.heap.size Wb W') => HP.out o W' (stepB b0 hb))
    obtain ⟨z, hz⟩ : ∃ z, p o = z := ⟨_, rfl⟩
    rw [hz] at hsn HPO
    obtain ⟨x0, x1, x2, x3, x4, x5, x6, x7, x8, x9, x10⟩ := o
    unfold RetGet oagg at HG
    unfold oagg at HPO
    dsimp only at HG HPO
    obtain ⟨xa1, xc1, hv1⟩ := own_form l0.own
    subst hv1
    have HSN := Lib.hid hsn
    have HL1 := Lib.hid l0
    have HK1 := Lib.hid k0
    have HB1 := Lib.hid b0
    clear hsz2 hrest hkw l0 k0 b0 hl1 hsn ho hn hz
    gi_wp2_with fail
    refine ⟨trivial, (callsIn_wide.2 HG.out).mono ?_⟩
    rintro e w5 ⟨rfl, hb5⟩
    have hb6 := below_alloc2 hb5 (.cells #[.int .i64 x0, .int .i64 x1, .int .i64 x2, .int .i64 x3, .bool x4, .bool x5, .int .i64 x6, .int .i64 x7, .int .i64 x8, .int .i64 x9, .bool x10] 30)
    have HQ := Lib.hid (show ∀ j, (w5.alloc (.cells #[.int .i64 x0, .int .i64 x1, .int .i64 x2, .int .i64 x3, .bool x4, .bool x5, .int .i64 x6, .int .i64 x7, .int .i64 x8, .int .i64 x9, .bool x10] 30)).cell? ⟨w5.heap.size, j, none⟩ = (#[.int .i64 x0, .int .i64 x1, .int .i64 x2, .int .i64 x3, .bool x4, .bool x5, .int .i64 x6, .int .i64 x7, .int .i64 x8, .int .i64 x9, .bool x10] : Array Value)[j]? from fun j => cell_of_row _ _ j _ _ (0, 0) (heap_alloc_new w5 _))
    have HB6 := Lib.hid hb6
    have c3a := cell_stays hb6 c3
    have HC5 := Lib.hid (cell_stays hb6 c5)
    clear hb5 hb6 c2 c3 c5 cq HG
    dsimp only
    gi_wp2_with fail
    refine ⟨trivial, (callsIn_wide.2 (HPO.out _ HB6.out)).mono ?_⟩
    rintro e w7 ⟨rfl, hb7⟩
    have hb8 := stepB HB6.out hb7
    have HL5 := Lib.hid (HL1.out.later hb8)
    have HK5 := Lib.hid (HK1.out.trans (KpP.of_below _ _ hb8))
    have HKW := Lib.hid (KpP.of_below (fun _ => False) (fun k => k = qq + 2) hb8)
    have HB5 := Lib.hid (stepB HB1.out hb8)
    have c5 := cell_stays hb7 HC5.out
    clear hb7 hb8 c3a HC5 HPO HQ
    dsimp only
    cases z
    · gi_wp2
      have hL := HL5.out
      have hsn := HSN.out
      rw [if_neg (by decide)] at hsn
      rw [← hsn] at hL
      exact ⟨HKW.out.from (fun k e => e.elim), HKB.out.trans (HKW.out.mono (fun k e => e.elim)), _, by simpa using hL, HK5.out, HB5.out, by rw [List.length_append]; exact HTL.out⟩
    · rw [if_pos rfl] at HSN
      have hlen : (selP B.S p (pre.map Prod.fst)).length + [x].length ≤ 1000 := by have := selP_len B.S p (pre.map Prod.fst); have := HTL.out; simp at *; omega
      have hlo : qq ≤ (w7.alloc (.cells #[.int .i64 x] 3)).heap.size := by have h1 := HB5.out.size; have h2 := HQQ.out; simp; omega
      gi_wp2_with (gi_at_builtin; refine wpListIn_append_ints rfl _ _ rfl rfl qq _ (selP B.S p (pre.map Prod.fst)).length (intsV (selP B.S p (pre.map Prod.fst))) rfl (own_later HL5.out.own (below_new w7 _)) _ 1 1 [x] rfl rfl ((RowAt.new _ 3 (intsV [x])).vals 1) hlen hlo ?f)
      case f =>
        intro v' w8 hown hgrow hnew
        have hsep : ∀ c, c = qq + 2 → (Value.slice xa1 (selP B.S p (pre.map Prod.fst)).length xc1).ownBlock ≠ some c := fun c hc e => by subst hc; exact (HL5.out.row _ e).2.2 rfl
        obtain ⟨l7, k7, h6⟩ := ListIn.snoc (E := fun _ => False) (H := fun k => k = qq + 2) HL5.out rfl hgrow hown (by rw [World.size_alloc]; exact hnew) hsep
        have c6 := h6.cell
        have f6 := h6.frozen
        have hqw := HQQ.out
        have HB7 := Lib.hid (show Below w.heap.size w (w8.setCell ⟨qq + 2, 0, none⟩ v') from ((HB5.out.alloc HB5.out.size _).grown hgrow (by have := HB5.out.size; simp; omega) (fun c e => by have := (HL5.out.row c e).1; have h2 := HQQ.out; omega)).setCell (by have h2 := HQQ.out; show w.heap.size ≤ qq + 2; omega) v')
        obtain ⟨xa7, xc7, hv7⟩ := own_form hown
        subst hv7
        have HL7 := Lib.hid l7
        have HK7 := Lib.hid k7
        clear hown hgrow hnew hsep l7 k7 h6 hlen hlo hqw c5
        gi_wp2
        have hL := HL7.out
        rw [← HSN.out] at hL
        have HK8 := HKW.out.trans HK7.out
        exact ⟨HK8.from (fun k e => e.elim), HKB.out.trans (HK8.mono (fun k e => e.elim)), _, by simpa using hL, HK5.out.trans HK7.out, HB7.out, by rw [List.length_append]; exact HTL.out⟩
  case done =>
    rintro D ys W hD hS ⟨v1, l0, k0, b0, hl1⟩ hK
    have hS' : ys.map Prod.fst = crsL B.S := by rw [show ys = strL B.S (fieldL B.S []) from hS]; rfl
    rw [hS'] at l0
    have cl := l0.head.cell
    have HL1 := Lib.hid l0
    have HB1 := Lib.hid b0
    have HK1 := Lib.hid hK
    have HD := Lib.hid (show qq + 3 ≤ D from by have := HSR.out; have h2 : wr.heap.size ≤ D := hD; omega)
    obtain ⟨xa1, xc1, rfl⟩ := own_form l0.own
    clear l0 k0 b0 hK hS hS' hl1 hD
    gi_wp2
    refine ⟨by simp, .inl ⟨_, _, rfl, run_takeDeferred HK1.out, ?_⟩⟩
    refine ⟨_, results_tmp rfl _ _ _, _, rfl, by rw [HQQ.out]; exact ownsRow_putObj HL1.out.own _ HK1.out rfl, ?_⟩
    exact HB1.out.trans (belowK_b (w := w) (Nat.le_refl _) W D _ _ (by have := HD.out; have := HQQ.out; omega) HK1.out rfl rfl)
theorem creat2_any {w : World} {lo : Nat} {g : GhostB} {B : BoardL} (h : BoardAt w lo g B) (c1 c2 : Nat) (p : ObjL → Bool) (hp : ∀ (o : ObjL) (W : World), Below w.heap.size w W → Calls Tryz.prog 77 #[oagg o, .pointer (some ⟨c1, 0, none⟩), .pointer (some ⟨c2, 0, none⟩)] W (RetV W (.bool (p o)))) :
    Calls Tryz.prog 76 #[.pointer (some ⟨g.q, 0, none⟩), .func (.func 77) #[] #[.pointer (some ⟨c1, 0, none⟩), .pointer (some ⟨c2, 0, none⟩)]] w (RetList w (selP B.S p (crsL B.S))) := (callsIn_wide (n := 9)).1 (creat2_in h c1 c2 p hp)
end Go.Proofs.YtjgjhfeopmakaaaGreat
