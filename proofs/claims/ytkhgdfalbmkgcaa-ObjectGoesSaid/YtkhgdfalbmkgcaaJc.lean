/- Lands of a seat (layer 7): its lands on the Field that aren't tapped, the least number first. -/
import Derived.Test.YtkhgdfalbmkgcaaJa
import Derived.Test.YtkhgdfalbmkgcaaJb
import Derived.Test.YtkhgdfalbmkgcaaRg
import Derived.Test.YtkhgdfalbmkgcaaHm
namespace Go.Proofs.Ytkhgdfalbmkgcaa
open Go.RowKit Go.Maps
attribute [local go_sem] Oper.semAt_some

theorem one_int (w : World) (x : Int) : IntsAt (w.alloc (.cells #[.int .i64 x] 3)) (.slice (some ⟨w.heap.size, 0, none⟩) 1 1) [x] :=
  .inr ⟨w.heap.size, 0, 1, rfl, by simp, fun i hi => by
    have : i = 0 := by simp [intsV] at hi; omega
    subst this
    rw [cell_of_row _ _ _ _ _ _ (heap_alloc_new w _)]; rfl⟩
def landO (S : StoreL) (o : ObjL) : Bool := !o.tapped && isLandB S.T o.card
def landIds (S : StoreL) (pre : List ObjL) : List Int := (pre.filter (landO S)).map (·.id)
theorem landIds_snoc (S : StoreL) (pre : List ObjL) (x : ObjL) : landIds S (pre ++ [x]) = if landO S x then landIds S pre ++ [x.id] else landIds S pre := by
  unfold landIds
  rw [List.filter_append]
  by_cases h : landO S x = true
  · simp [h]
  · simp [h]
theorem landIds_len (S : StoreL) (pre : List ObjL) : (landIds S pre).length ≤ pre.length := by
  unfold landIds
  rw [List.length_map]
  exact List.length_filter_le _ _
theorem field_mem {S : StoreL} (h : WfS S) (hn : 1 ≤ S.seats) {os : List Int} {x : ObjL} (hx : x ∈ fieldL S os) : ∃ k, ∃ hk : k < S.objs.length, x = S.objs[k] ∧ x.id = (k : Int) + 1 ∧ x.zone = 3 ∧ ∃ n : Nat, x.card = n ∧ n < S.T.length := by
  unfold fieldL selO at hx
  obtain ⟨hx, _⟩ := List.mem_filter.1 hx
  obtain ⟨i, hi, rfl⟩ := List.mem_map.1 hx
  obtain ⟨k, hk, e, ho, hz⟩ := h.onField hn hi
  have hid := h.ids k hk
  rw [ho]
  exact ⟨k, hk, rfl, hid.1, hz, S.objs[k].card.toNat, by omega, by omega⟩
def LandsI (S : StoreL) (q : Nat) (A Wr : World) (pre : List ObjL) (W : World) : Prop :=
  ∃ v, ListIn W q (q + 1) v (landIds S pre) ∧ KpP (fun _ => False) (fun k => k = q + 1) Wr W ∧ Below A.heap.size A W ∧ pre.length ≤ 1000
theorem landsI_own {S : StoreL} {q : Nat} {A Wr : World} {B : Nat} (hB : A.heap.size ≤ B) (hB5 : Wr.heap.size ≤ B) : OwnFrom B (LandsI S q A Wr) := by
  rintro s X Y row ⟨v, h1, h2, h3, h4⟩ hg hr
  have hr' : ∀ r, row = some r → ∃ o : Obj, X.heap[r]? = some o ∧ o.isCells = false := fun r e => (hr r e).2
  exact ⟨v, h1.grown hg hr', kpP_own (β := Unit) hB5 () X Y row h2 hg hr, ownFrom_below (β := Unit) (Nat.le_refl _) hB () X Y row h3 hg hr, h4⟩
theorem fieldL_len {S : StoreL} (hS : WfS S) (hl : S.objs.length ≤ 1000) (hn : 1 ≤ S.seats) (os : List Int) : (fieldL S os).length ≤ 1000 :=
  Nat.le_trans (selO_len _ _ _) ((hS.short hl).2 0 3 ⟨by omega, by decide, by decide, fun _ => rfl⟩)
set_option maxRecDepth 100000 in
set_option maxHeartbeats 4000000 in
theorem lands_in {w : World} {lo b : Nat} {G : Ghost} {S : StoreL} (h : StoreAt w lo b G S) (hS : WfS S) (hl : S.objs.length ≤ 1000) (seat : Int) :
    CallsIn Fence.wide 9 Try.prog 26 #[.pointer (some ⟨b, 0, none⟩), .int .i64 seat] w (RetList w (sortI (landIds S (fieldL S [seat])))) := by
  have hn1 := h.n1
  have HFL := Lib.hid (fieldL_len hS hl hn1 [seat])
  have HH := Lib.hid h
  have HW := Lib.hid hS
  have hb1 := below_new w (.cells #[.pointer (some ⟨b, 0, none⟩)] 26)
  have hb2 := below_new (w.alloc (.cells #[.pointer (some ⟨b, 0, none⟩)] 26)) (.cells #[.slice none 0 0] 37)
  have hb3 := below_new ((w.alloc (.cells #[.pointer (some ⟨b, 0, none⟩)] 26)).alloc (.cells #[.slice none 0 0] 37)) (.cells #[.int .i64 seat] 3)
  have hs0 := ((HdAt.new w (.pointer (some ⟨b, 0, none⟩)) 26).later hb2).later hb3
  have hi0 := one_int ((w.alloc (.cells #[.pointer (some ⟨b, 0, none⟩)] 26)).alloc (.cells #[.slice none 0 0] 37)) seat
  have hl0 : ListIn ((w.alloc (.cells #[.pointer (some ⟨b, 0, none⟩)] 26)).alloc (.cells #[.slice none 0 0] 37)) w.heap.size (w.heap.size + 1) (.slice none 0 0) [] :=
    ⟨by have e := heap_alloc_new (w.alloc (.cells #[.pointer (some ⟨b, 0, none⟩)] 26)) (.cells #[.slice none 0 0] 37); simpa using e, World.ownsRow_nil _ _ _ _⟩
  have hbb := stepB (stepB hb1 hb2) hb3
  simp only [World.size_alloc] at hi0
  have HFA := Lib.hid (field_any (some ⟨b, 0, none⟩) hi0 (by simp))
  have HS0 := Lib.hid hs0
  have HL0 := Lib.hid (hl0.later hb3)
  have HBB := Lib.hid hbb
  clear hb1 hb2 hb3 hs0 hl0 hbb hi0 h hS
  refine callsIn_of_wp_marks Try.func26 rfl trivial ?_ rfl
  simp only [Try.ntmps26, List.size_toArray, List.length_cons, List.length_nil, Nat.reduceAdd, Nat.reduceSub, Array.replicate_succ, Array.replicate_zero, List.push_toArray, List.append_toArray, List.nil_append, List.cons_append]
  gi_wp2_with fail
  refine ⟨trivial, (callsIn_wide.2 HFA.out).mono ?_⟩
  rintro e wr ⟨rfl, hf1, ⟨u, hf2, hu⟩, hbr⟩
  have HBR := Lib.hid (stepB HBB.out hbr)
  have HSB := Lib.hid (HS0.out.later hbr)
  have HLB := Lib.hid (HL0.out.later hbr)
  obtain ⟨q, hq⟩ : ∃ q, w.heap.size = q := ⟨_, rfl⟩
  have HQQ := Lib.hid hq
  simp only [World.size_alloc, hq] at hf1 hf2
  simp only [hq] at HSB HLB
  have HSEQ := Lib.hid (field_seq 8 (by omega) (w := wr) (fun _ => False) (fun k => k = q + 1) (fun _ e => e.elim) hf1 hf2 (HH.out.later HBR.out) HW.out hl hu (by simp) (fun c hc => by subst hc; exact ⟨_, HLB.out.head, fun k hk => (HLB.out.row k hk).2.1⟩))
  have HI0 : Hid (LandsI S q w wr [] wr) := Lib.hid ⟨.slice none 0 0, HLB.out, KpP.refl _ _ _, HBR.out, Nat.zero_le _⟩
  have HSR := Lib.hid (show q + 5 ≤ wr.heap.size by have := hf2.lt; omega)
  clear hf1 hf2 hu hbr HS0 HL0 HFA HBB
  simp only [World.size_alloc, hq]
  gi_wp2_with fail
  refine range_world3 rfl (by omega) (I := LandsI S q w wr) (Ix := fun _ _ _ => False) (gf := 40) (lb := _) rfl trivial (fun _ _ => by kernel_rfl) HSEQ.out KpP.trans (fun W' o o' ho hc _ => KpP.put o' (.inr rfl) ho hc) (fun W W' hb => KpP.of_below _ _ hb) (Below.refl _ _) (fun _ => rfl)
    (landsI_own HBR.out.size (Nat.le_refl _)) (fun c s A B row hs hg hr => hs) (fun s A B row hs hg hr => hs) (fun s A B row hs hg hr => hs) HI0.out ?round ?done ?stop
  case stop =>
    rintro D c pre W hD hS hI hK
    exact hI.elim
  case round =>
    rintro pre x W K hI hT hsz hK
    obtain ⟨k, hk, hx, hid, hz, n, hcn, hn⟩ := field_mem HW.out hn1 (show x ∈ fieldL S [seat] from hT.subset (by simp))
    have hcard : S.objs[k].card = n := by rw [← hx]; exact hcn
    obtain ⟨cb, hcb⟩ : ∃ cb, isLandB S.T n = cb := ⟨_, rfl⟩
    have HL := Lib.hid (fun (W' : World) (hb : Below w.heap.size w W') => isLand_ok (HH.out.later hb) hl k n hk hn hcard)
    rw [hcb] at HL
    have hsn := landIds_snoc S pre x
    have htl := hT.length_le
    obtain ⟨x0, x1, x2, x3, x4, x5, x6, x7, x8, x9, x10⟩ := x
    dsimp only at hid hcn hz
    subst hid hcn hz
    have HSN := Lib.hid (show landIds S (pre ++ [⟨(k : Int) + 1, n, x2, 3, x4, x5, x6, x7, x8, x9, x10⟩]) = if (!x4 && cb) = true then landIds S pre ++ [(k : Int) + 1] else landIds S pre by rw [← hcb]; exact hsn)
    have HK := Lib.hid hK
    have HTL := Lib.hid (show pre.length + 1 ≤ 1000 from by have := HFL.out; simp at htl; omega)
    clear hK hT hx hsn htl hcb hcard hI
    simp only [encO, ocs]
    simp
    gi_wp2
    refine HK.out _ _ (below_new W _) ?_
    clear HK
    intro Wb hsz2 hrest hkw ⟨v1, l0, k0, b0, hl1⟩
    have HKB := Lib.hid hkw
    obtain ⟨qo, hqo⟩ : ∃ qo, W.heap.size = qo := ⟨_, rfl⟩
    have hbx := (hrest W.heap.size (by omega)).trans (heap_alloc_new W _)
    rw [hqo] at hbx hsz ⊢
    obtain ⟨o0, o1, o2, o3, o4, o5, o6, o7, o8, o9, o10⟩ := obj_of_row (x := ⟨(k : Int) + 1, n, x2, 3, x4, x5, x6, x7, x8, x9, x10⟩) hbx
    simp only [Nat.zero_add] at o1 o2 o3 o4 o5 o6 o7 o8 o9 o10
    have hsW := box_kept HSB.out k0 (fun e => e) (off_one HLB.out.head (by omega) (fun e => by cases e))
    have c2 := hsW.cell
    have c5 := l0.head.cell
    have HLW := HL.out Wb b0
    obtain ⟨xa1, xc1, hv1⟩ := own_form l0.own
    subst hv1
    have HL1 := Lib.hid l0
    have HK1 := Lib.hid k0
    have HB1 := Lib.hid b0
    have HLL := Lib.hid HLW
    clear hsz2 hrest hkw hqo hbx hsW l0 k0 b0 HL HLW hl1
    cases x4
    · rw [show (!false && cb) = cb from rfl] at HSN
      gi_wp2_with fail
      refine ⟨trivial, (callsIn_wide.2 HLL.out).mono ?_⟩
      rintro e w5 ⟨rfl, hb5⟩
      have HL5 := Lib.hid (HL1.out.later hb5)
      have HK5 := Lib.hid (HK1.out.trans (KpP.of_below _ _ hb5))
      have HKW := Lib.hid (KpP.of_below (fun _ => False) (fun k => k = q + 1) hb5)
      have HB5 := Lib.hid (stepB HB1.out hb5)
      have c5' := cell_stays hb5 c5
      have o0' := cell_stays hb5 o0
      have c2' := cell_stays hb5 c2
      clear hb5 c5 o0 c2 o1 o2 o3 o4 o5 o6 o7 o8 o9 o10 HLL
      dsimp only
      cases cb
      · gi_wp2
        have hL := HL5.out
        have hsn := HSN.out
        rw [if_neg (by decide)] at hsn
        rw [← hsn] at hL
        exact ⟨HKW.out.from (fun k e => e.elim), HKB.out.trans (HKW.out.mono (fun k e => e.elim)), _, hL, HK5.out, HB5.out, by rw [List.length_append]; exact HTL.out⟩
      · rw [if_pos rfl] at HSN
        have hlen : (landIds S pre).length + [(k : Int) + 1].length ≤ 1000 := by have := landIds_len S pre; have := HTL.out; simp; omega
        have hlo : q ≤ (w5.alloc (.cells #[.int .i64 ((k : Int) + 1)] 3)).heap.size := by have h1 := HK5.out.size; have h2 := HSR.out; simp; omega
        gi_wp2_with (gi_at_builtin; refine wpListIn_append_ints rfl _ _ rfl rfl q _ (landIds S pre).length (intsV (landIds S pre)) rfl (own_later HL5.out.own (below_new w5 _)) _ 1 1 [(k : Int) + 1] rfl rfl ((RowAt.new _ 3 (intsV [(k : Int) + 1])).vals 1) hlen hlo ?f)
        case f =>
          intro v' w6 hown hgrow hnew
          have hsep : ∀ c, c = q + 1 → (Value.slice xa1 (landIds S pre).length xc1).ownBlock ≠ some c := fun c hc e => by subst hc; exact (HL5.out.row _ e).2.2 rfl
          obtain ⟨l7, k7, h6⟩ := ListIn.snoc (E := fun _ => False) (H := fun k => k = q + 1) HL5.out rfl hgrow hown (by rw [World.size_alloc]; exact hnew) hsep
          have c6 := h6.cell
          have f6 := h6.frozen
          have hqw := HQQ.out
          have HB7 := Lib.hid (show Below w.heap.size w (w6.setCell ⟨q + 1, 0, none⟩ v') from ((HB5.out.alloc HB5.out.size _).grown hgrow (by have := HB5.out.size; simp; omega) (fun c e => by have := (HL5.out.row c e).1; omega)).setCell (by show w.heap.size ≤ q + 1; omega) v')
          obtain ⟨xa7, xc7, hv7⟩ := own_form hown
          subst hv7
          have HL7 := Lib.hid l7
          have HK7 := Lib.hid k7
          clear hown hgrow hnew hsep l7 k7 h6 hlen hlo
          gi_wp2
          have hL := HL7.out
          rw [← HSN.out] at hL
          have HK8 := HKW.out.trans HK7.out
          exact ⟨HK8.from (fun k e => e.elim), HKB.out.trans (HK8.mono (fun k e => e.elim)), _, hL, HK5.out.trans HK7.out, HB7.out, by rw [List.length_append]; exact HTL.out⟩
    · gi_wp2_with fail
      refine ⟨trivial, ?_⟩
      gi_wp2
      have hL := HL1.out
      have hsn := HSN.out
      rw [if_neg (by simp)] at hsn
      rw [← hsn] at hL
      exact ⟨(KpP.refl (fun _ => False) (fun k => k = q + 1) _).from (fun k e => e.elim), HKB.out, _, hL, HK1.out, HB1.out, by rw [List.length_append]; exact HTL.out⟩
  case done =>
    rintro D ys W hD hS ⟨v1, l0, k0, b0, hl1⟩ hK
    subst hS
    have cl := l0.head.cell
    have HL1 := Lib.hid l0
    have HB1 := Lib.hid b0
    have hlen : (landIds S (fieldL S [seat])).length ≤ 1000 := Nat.le_trans (landIds_len _ _) HFL.out
    have HSO := Lib.hid (sort_own l0.own hlen)
    obtain ⟨xa1, xc1, rfl⟩ := own_form l0.own
    clear l0 k0 b0
    gi_wp2_with fail
    refine ⟨trivial, (callsIn_wide.2 HSO.out).mono ?_⟩
    rintro e w5 ⟨rfl, hown, hgr⟩
    have hbx := (hgr.block (q + 1) HL1.out.head.lt (fun e => (HL1.out.row _ e.symm).2.2 rfl)).trans HL1.out.box
    have cl5 : w5.cell? ⟨q + 1, 0, none⟩ = some (.slice xa1 (landIds S (fieldL S [seat])).length xc1) := by rw [cell_of_row w5 (q + 1) 0 _ _ _ hbx]; rfl
    have hK5 : w5.heap[D]? = some (.deferred (some [])) := (hgr.block D (Array.getElem?_eq_some_iff.1 hK).1 (fun e => by
      obtain ⟨o, ho, hc⟩ := own_cells HL1.out.own D e.symm
      rw [hK] at ho
      injection ho with ho
      rw [← ho] at hc
      simp [Obj.isCells] at hc)).trans hK
    have HO := Lib.hid hown
    have HK5 := Lib.hid hK5
    have HB5 := Lib.hid (grown_of HB1.out hgr (fun k e => by have := (HL1.out.row k e).1; have := HQQ.out; omega))
    clear hbx hK5 hown hgr cl hK
    dsimp only
    gi_wp2
    refine ⟨by simp, .inl ⟨_, _, rfl, run_takeDeferred HK5.out, ?_⟩⟩
    refine ⟨_, results_tmp rfl _ _ _, _, rfl, ?_, ?_⟩
    · rw [sortI_len]
      exact own_mono (ownsRow_putObj HO.out _ HK5.out rfl) (by have hq := HQQ.out; omega)
    · exact HB5.out.trans (belowK_b (w := w) (Nat.le_refl _) w5 D _ _ (by have := HSR.out; have := HQQ.out; omega) HK5.out rfl rfl)
theorem lands_any {w : World} {lo b : Nat} {G : Ghost} {S : StoreL} (h : StoreAt w lo b G S) (hS : WfS S) (hl : S.objs.length ≤ 1000) (seat : Int) :
    Calls Try.prog 26 #[.pointer (some ⟨b, 0, none⟩), .int .i64 seat] w (RetList w (sortI (landIds S (fieldL S [seat])))) := (callsIn_wide (n := 9)).1 (lands_in h hS hl seat)
end Go.Proofs.Ytkhgdfalbmkgcaa
