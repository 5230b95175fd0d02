/- What is on the Field (layer 6): onField. -/
import Derived.Test.YtjgjhfeopmakaaaGreatHl
import Derived.Test.YtjgjhfeopmakaaaGreatSd
import Derived.Test.YtjgjhfeopmakaaaGreatJx
import Derived.Test.YtjgjhfeopmakaaaGreatFz
import Derived.RangeFuncFrom
import Derived.Maps.AppendAt
namespace Go.Proofs.YtjgjhfeopmakaaaGreat
open Go.RowKit Go.Maps
attribute [local go_sem] Oper.semAt_some

/-- A list in a box. -/
structure RowIn (bt et : TypeId) (sz : Nat) (W : World) (lo s : Nat) (v : Value) (n : Nat) (xs : List Value) : Prop where
  box : W.heap[s]? = some (.cells #[v] bt (0, 0))
  own : W.ownsRow lo et sz v n xs
  ne : bt ≠ et
theorem own_cellsN {W : World} {lo n sz : Nat} {t : TypeId} {v : Value} {xs : List Value} (h : W.ownsRow lo t sz v n xs) : ∀ k, v.ownBlock = some k → ∃ o, W.heap[k]? = some o ∧ o.isCells = true := by
  intro k hk
  rcases h.2 with ⟨rfl, _⟩ | ⟨g', cap, cur, rfl, _, hg, _⟩
  · simp [Value.ownBlock] at hk
  · obtain rfl : g' = k := by simpa [Value.ownBlock] using hk
    exact ⟨_, hg, rfl⟩
section
variable {bt et : TypeId} {sz : Nat}
theorem RowIn.head {W : World} {lo s n : Nat} {v : Value} {xs : List Value} (h : RowIn bt et sz W lo s v n xs) : HdAt W s v := ⟨_, h.box⟩
theorem RowIn.row {W : World} {lo s n : Nat} {v : Value} {xs : List Value} (h : RowIn bt et sz W lo s v n xs) : ∀ k, v.ownBlock = some k → lo ≤ k ∧ k < W.heap.size ∧ k ≠ s := fun k hk => by
  have := World.ownsRow.lt h.own k hk
  refine ⟨this.1, this.2, fun e => ?_⟩
  rcases h.own.2 with ⟨rfl, _⟩ | ⟨g', cap, cur, rfl, _, hg, _⟩
  · simp [Value.ownBlock] at hk
  · obtain rfl : g' = k := by simpa [Value.ownBlock] using hk
    rw [e, h.box] at hg
    injection hg with hg
    injection hg with _ ht
    exact h.ne ht
theorem own_grownS {A B : World} {lo n : Nat} {t : TypeId} {v : Value} {xs : List Value} {row : Option Nat} (h : A.ownsRow lo t sz v n xs) (hg : A.grownBy B row) (hr : ∀ r, row = some r → ∃ o : Obj, A.heap[r]? = some o ∧ o.isCells = false) : B.ownsRow lo t sz v n xs := by
  refine ⟨h.1, ?_⟩
  rcases h.2 with h5 | ⟨g', cap, cur, e, hb2, hg2, r⟩
  · exact .inl h5
  · exact .inr ⟨g', cap, cur, e, hb2, (grownBy_keeps_cells hg hr hg2 rfl).trans hg2, r⟩
theorem RowIn.grown {A B : World} {lo s n : Nat} {v : Value} {xs : List Value} {row : Option Nat} (h : RowIn bt et sz A lo s v n xs) (hg : A.grownBy B row) (hr : ∀ r, row = some r → ∃ o : Obj, A.heap[r]? = some o ∧ o.isCells = false) : RowIn bt et sz B lo s v n xs :=
  ⟨(grownBy_keeps_cells hg hr h.box rfl).trans h.box, own_grownS h.own hg hr, h.ne⟩
theorem RowIn.later {A B : World} {lo s n : Nat} {v : Value} {xs : List Value} (h : RowIn bt et sz A lo s v n xs) (hb : Below A.heap.size A B) : RowIn bt et sz B lo s v n xs :=
  h.grown (own_below hb) (fun r e => by cases e)
theorem RowIn.snoc {E H : Nat → Prop} {W w6 : World} {lo s n n' : Nat} {v v' : Value} {xs xs' : List Value} (h : RowIn bt et sz W lo s v n xs) (hs : H s) (hg : W.grownBy w6 v.ownBlock) (hown : w6.ownsRow lo et sz v' n' xs')
    (hn : Newer W v.ownBlock v'.ownBlock) (hsep : ∀ b, H b → v.ownBlock ≠ some b) :
    RowIn bt et sz (w6.setCell ⟨s, 0, none⟩ v') lo s v' n' xs' ∧ KpP E H W (w6.setCell ⟨s, 0, none⟩ v') ∧ HdAt w6 s v := by
  have hsl := (Array.getElem?_eq_some_iff.1 h.box).1
  have hblk : ∀ k, k < W.heap.size → v.ownBlock ≠ some k → w6.heap[k]? = W.heap[k]? := fun k hk hv => hg.block k hk (Ne.symm hv)
  have h6 := (hblk s hsl (hsep s hs)).trans h.box
  have hne : v'.ownBlock ≠ some s := newer_ne1 hn hsl (hsep s hs)
  refine ⟨⟨?_, ?_, h.ne⟩, ⟨?_, fun k ob ho _ hO => ?_, fun b u hb hu => ?_⟩, ⟨_, h6⟩⟩
  · rw [heap_setCell_same w6 s 0 _ _ v' h6]; rfl
  · exact own11_later hown fun k hk => heap_setCell_other w6 ⟨s, 0, none⟩ k v' (fun e => hne (by rw [hk, e]))
  · have := hg.size; simpa using this
  · have hk := (Array.getElem?_eq_some_iff.1 ho).1
    have hks : k ≠ s ∧ v.ownBlock ≠ some k := by
      cases hx : ob.isCells with
      | true =>
        have hO' := hO hx
        obtain ⟨u, h1, h2⟩ := hO'.2 s hs
        exact ⟨fun e => hO'.1 (by rw [e]; exact hs), by rw [← h1.one h.head]; exact h2⟩
      | false =>
        refine ⟨fun e => ?_, fun e => ?_⟩
        · rw [e, h.box] at ho; injection ho with ho; rw [← ho] at hx; simp [Obj.isCells] at hx
        · obtain ⟨o', ho', hc'⟩ := own_cellsN h.own k e
          rw [ho] at ho'; injection ho' with ho'; rw [ho', hc'] at hx; cases hx
    rw [heap_setCell_other w6 ⟨s, 0, none⟩ k v' hks.1, hblk k hk hks.2]
    exact ho
  · by_cases hbs : b = s
    · subst hbs
      exact ⟨v', HdAt.set ⟨_, h6⟩ v', by rw [hu.one h.head]; exact hn⟩
    · exact ⟨u, (hu.of (hblk b hu.lt (hsep b hb))).other hbs v', .inl rfl⟩
end
theorem box_kept {E H : Nat → Prop} {W W' : World} {b : Nat} {v : Value} (h : HdAt W b v) (hk : KpP E H W W') (h1 : ¬E b) (h2 : Off H W b) : HdAt W' b v := by
  obtain ⟨t, h⟩ := h
  exact ⟨t, hk.rest b _ h h1 (fun _ => h2)⟩
def ownB (os : List Int) (o : ObjL) : Bool := os.isEmpty || os.contains o.owner
def selO (S : StoreL) (os ids : List Int) : List ObjL := (ids.map (objOf S)).filter (ownB os)
def fieldL (S : StoreL) (os : List Int) : List ObjL := selO S os (S.pl 0 3)
theorem selO_snoc (S : StoreL) (os ids : List Int) (x : Int) : selO S os (ids ++ [x]) = if ownB os (objOf S x) then selO S os ids ++ [objOf S x] else selO S os ids := by
  unfold selO
  rw [List.map_append, List.filter_append]
  by_cases h : ownB os (objOf S x) = true
  · simp [h]
  · simp [h]
theorem selO_len (S : StoreL) (os ids : List Int) : (selO S os ids).length ≤ ids.length := Nat.le_trans (List.length_filter_le _ _) (by simp)
theorem nums_of {w : World} {v : Value} {l : List Int} (h : IntsAt w v l) (hl : 0 < l.length) : Crd.NumsAt w v l := by
  rcases h with ⟨_, _, _, h2⟩ | ⟨b, off, cap, rfl, hlt, hc⟩
  · rw [show l = [] by simpa [intsV] using h2] at hl; simp at hl
  · exact .inr ⟨b, off, cap, by rw [intsV_len], hlt, fun i hi => by rw [hc i (by rw [intsV_len]; exact hi)]; simp [intsV, List.getD, hi]⟩
theorem append_obj (w : World) (base : Nat) (v : Value) (l : List ObjL) (y : ObjL) (r : Nat) (hown : w.ownsRow base 30 11 v l.length (objsV l)) (hr : w.heap[r]? = some (.cells (ocs y) 30 (0, 0))) (h1 : l.length ≤ 1000) (hbase : base ≤ w.heap.size) :
    ∃ v' w', (Builtin.append_ #[75, 75] 75 #[v, .slice (some ⟨r, 0, none⟩) 1 1]).run Tryz.prog w = .ok v' w' ∧ w'.ownsRow base 30 11 v' (l ++ [y]).length (objsV (l ++ [y])) ∧ w.grownBy w' v.ownBlock ∧
      (v'.ownBlock = v.ownBlock ∨ v'.ownBlock = some w.heap.size) := by
  obtain ⟨i0, hi0, hz0, hz1, hz2⟩ := info_parts info_obj
  obtain ⟨v', w', hrun, h2, h3, _, h5⟩ := run_append_own_at (P := Tryz.prog) w base 75 75 30 i0 _ 11 80 Tryz.underlying75 hi0 hz0 hz1 hz2 rfl (by decide) v l.length (objsV l) hown ⟨r, 0, none⟩ 1 1 (ocells y) rfl (World.news_of_block hr) (ocells_one y) (by unfold maxLen; omega) (by omega) hbase
  refine ⟨v', w', hrun, ?_, h3, h5⟩
  rw [objsV_append, List.length_append]
  simpa [objsV] using h2
theorem wpListIn_append_obj {F : Fence} {m : Nat} {w : World} {ops : Array Oper} {rest : List Oper} {o : Oper} {a : Act} {Q : Exit → Act → World → Prop} (hgd : o.guard = none) (s x : Operand)
    (ho : o.op = .call { callee := .builtin .append, args := #[s, x], argTypes := #[75, 75] }) (hty : o.type = 75) (base : Nat) (v : Value) (l : List ObjL) (y : ObjL) (r : Nat) (hs : a.eval s = v)
    (hown : w.ownsRow base 30 11 v l.length (objsV l)) (hx : a.eval x = .slice (some ⟨r, 0, none⟩) 1 1) (hr : w.heap[r]? = some (.cells (ocs y) 30 (0, 0))) (h1 : l.length ≤ 1000) (hbase : base ≤ w.heap.size)
    (h : ∀ v' w', w'.ownsRow base 30 11 v' (l ++ [y]).length (objsV (l ++ [y])) → w.grownBy w' v.ownBlock → (v'.ownBlock = v.ownBlock ∨ v'.ownBlock = some w.heap.size) → wpListIn F m Tryz.prog ops Q rest (a.put o.dst v') w') : wpListIn F m Tryz.prog ops Q (o :: rest) a w := by
  obtain ⟨v', w', hrun, h2, h3, h4⟩ := append_obj w base v l y r hown hr h1 hbase
  refine wpListIn_plain hgd fun K hK' => ?_
  unfold Oper.wpIn
  refine ⟨?_, ?_⟩
  · simp [Oper.about, ho, resolve, Target.leads, Sem.run_pure]
  · rw [Oper.semAt_plain F _ _ (by rw [ho]; intro c hc'; cases hc')]
    simp [execOp, ho, resolve, invoke, builtin, hs, hx, hty, hrun, Result.andThen]
    exact hK' _ _ (h v' w' h2 h3 h4)
theorem heap_two (w : World) (o o' : Obj) : ((w.alloc o).alloc o').heap[w.heap.size + 1]? = some o' := by
  have e := heap_alloc_new (w.alloc o) o'
  rw [World.size_alloc] at e
  exact e
theorem prefix_mem {L : List Int} {pre : List AItem} {x : Int} {x2 : Nat} (h : pre ++ [(x, x2)] <+: L.zipIdx) : x ∈ L ∧ pre.length + 1 ≤ L.length := by
  constructor
  · have h1 := h.subset (show (x, x2) ∈ pre ++ [(x, x2)] by simp)
    have := List.mem_map_of_mem (f := Prod.fst) h1
    simpa [List.zipIdx_map_fst] using this
  · have := h.length_le
    simpa using this
def fsts (pre : List AItem) : List Int := pre.map (·.1)
/-- What the loop holds. -/
def FieldI (S : StoreL) (os : List Int) (q : Nat) (A Wr : World) (pre : List AItem) (W : World) : Prop :=
  ∃ v, RowIn 75 30 11 W (q + 3) (q + 2) v (selO S os (fsts pre)).length (objsV (selO S os (fsts pre))) ∧ KpP (fun _ => False) (fun k => k = q + 2) Wr W ∧ Below A.heap.size A W ∧ pre.length ≤ (S.pl 0 3).length
theorem fieldI_own {S : StoreL} {os : List Int} {q : Nat} {A Wr : World} {B : Nat} (hB : A.heap.size ≤ B) (hB5 : Wr.heap.size ≤ B) : OwnFrom B (FieldI S os q A Wr) := by
  rintro s X Y row ⟨v, h1, h2, h3, h4⟩ hg hr
  have hr' : ∀ r, row = some r → ∃ o : Obj, X.heap[r]? = some o ∧ o.isCells = false := fun r e => (hr r e).2
  exact ⟨v, h1.grown hg hr', kpP_own (β := Unit) hB5 () X Y row h2 hg hr, ownFrom_below (β := Unit) (Nat.le_refl _) hB () X Y row h3 hg hr, h4⟩
theorem off_one {W : World} {s k : Nat} {v : Value} (hl : HdAt W s v) (h2 : k ≠ s) (h4 : v.ownBlock ≠ some k) : Off (fun k => k = s) W k :=
  ⟨fun e => h2 e, fun c hc => by subst hc; exact ⟨v, hl, h4⟩⟩
theorem WfS.onField {S : StoreL} (h : WfS S) (hn : 1 ≤ S.seats) {x : Int} (hx : x ∈ S.pl 0 3) : ∃ k, ∃ hk : k < S.objs.length, x = (k : Int) + 1 ∧ objOf S x = S.objs[k] ∧ S.objs[k].zone = 3 := by
  obtain ⟨k, hk, e, _, e3⟩ := (h.mem 0 3 ⟨by omega, by decide, by decide, fun _ => rfl⟩ x).1 hx
  refine ⟨k, hk, e, ?_, ?_⟩
  · subst e
    unfold objOf
    rw [show ((k : Int) + 1 - 1).toNat = k by omega]
    simp [List.getD, hk]
  · have := (h.ids k hk).2.2.2.2.2
    omega
set_option maxRecDepth 100000 in
set_option maxHeartbeats 4000000 in
theorem onField_in {w : World} {lo b : Nat} {G : Ghost} {S : StoreL} {u : Value} {os : List Int} (h : StoreAt w lo b G S) (hS : WfS S) (hl : S.objs.length ≤ 1000) (hu : IntsAt w u os) (hos : os.length ≤ 1000) :
    CallsIn Fence.wide 8 Tryz.prog 125 #[.pointer (some ⟨b, 0, none⟩), u] w (RetObjs w (fieldL S os)) := by
  have HSS := Lib.hid (hS.short hl)
  have hn1 := h.n1
  obtain ⟨ua, uc, rfl⟩ := hu.form
  have HH := Lib.hid h
  have HU := Lib.hid hu
  have HW := Lib.hid hS
  obtain ⟨i0, hi0, hz0, hz1, hz2⟩ := info_parts info_obj
  have ok : okK S.seats 0 3 := ⟨by omega, by decide, by decide, fun _ => rfl⟩
  have HOK := Lib.hid ok
  have hb1 := below_new w (.cells #[.pointer (some ⟨b, 0, none⟩)] 34)
  have hb2 := below_new (w.alloc (.cells #[.pointer (some ⟨b, 0, none⟩)] 34)) (.cells #[.slice ua os.length uc] 79)
  have hb3 := below_new ((w.alloc (.cells #[.pointer (some ⟨b, 0, none⟩)] 34)).alloc (.cells #[.slice ua os.length uc] 79)) (.cells #[.slice none 0 0] 75)
  have hs0 := ((HdAt.new w (.pointer (some ⟨b, 0, none⟩)) 34).later hb2).later hb3
  have ho0 := (HdAt.new (w.alloc (.cells #[.pointer (some ⟨b, 0, none⟩)] 34)) (.slice ua os.length uc) 79).later hb3
  have hl0 : RowIn 75 30 11 (((w.alloc (.cells #[.pointer (some ⟨b, 0, none⟩)] 34)).alloc (.cells #[.slice ua os.length uc] 79)).alloc (.cells #[.slice none 0 0] 75)) (w.heap.size + 3) (w.heap.size + 2) (.slice none 0 0) 0 [] :=
    ⟨by have e := heap_alloc_new ((w.alloc (.cells #[.pointer (some ⟨b, 0, none⟩)] 34)).alloc (.cells #[.slice ua os.length uc] 79)) (.cells #[.slice none 0 0] 75); simpa using e, World.ownsRow_nil _ _ _ _, by decide⟩
  have hbb := stepB (stepB hb1 hb2) hb3
  simp only [World.size_alloc] at ho0
  have HS0 := Lib.hid hs0
  have HO0 := Lib.hid ho0
  have HL0 := Lib.hid hl0
  have HBB := Lib.hid hbb
  have HPA := pileAt_any (HH.out.later hbb) (s := 0) (z := 3) ⟨by decide, by decide⟩ ⟨by decide, by decide⟩
  rw [show canS 0 3 = 0 from rfl, show ptrOf S.seats G.pb 0 3 = .pointer (some ⟨G.pb 0 3, 0, none⟩) from if_pos (okI_nat.2 ok)] at HPA
  have HP := Lib.hid HPA
  clear hb1 hb2 hb3 hs0 ho0 hl0 hbb HPA h hu hS ok
  refine callsIn_of_wp_marks Tryz.func125 rfl trivial ?_ rfl
  simp only [Tryz.ntmps125, List.size_toArray, List.length_cons, List.length_nil, Nat.reduceAdd, Nat.reduceSub, Array.replicate_succ, Array.replicate_zero, List.push_toArray, List.append_toArray, List.nil_append, List.cons_append]
  gi_wp2_with fail
  refine ⟨trivial, (callsIn_wide.2 HP.out).mono ?_⟩
  rintro e wq ⟨rfl, hbq⟩
  have HQ := Lib.hid hbq
  clear hbq
  dsimp only
  gi_wp2_with fail
  refine ⟨trivial, (callsIn_wide.2 (all_any (some ⟨G.pb 0 3, 0, none⟩) wq)).mono ?_⟩
  rintro e wr ⟨rfl, hfr, hbr⟩
  have HF := Lib.hid hfr
  have HBR := Lib.hid (stepB (stepB HBB.out HQ.out) hbr)
  have HR := Lib.hid (stepB HQ.out hbr)
  have HSR := Lib.hid (show w.heap.size + 3 ≤ wr.heap.size by have := HQ.out.size; have := hbr.size; simp at *; omega)
  obtain ⟨cq, hcq⟩ : ∃ cq, wq.heap.size = cq := ⟨_, rfl⟩
  rw [hcq] at HF ⊢
  clear hfr hbr HP
  dsimp only
  have HSB := Lib.hid (HS0.out.later HR.out)
  have HOB := Lib.hid (HO0.out.later HR.out)
  have HLB := Lib.hid (HL0.out.later HR.out)
  have hpi := (HH.out.later HBR.out).pi 0 3 HOK.out
  clear hcq
  obtain ⟨q, hq⟩ : ∃ q, w.heap.size = q := ⟨_, rfl⟩
  have HQQ := Lib.hid hq
  simp only [hq] at HSR HSB HOB HLB ⊢
  have HSEQ := Lib.hid (all_seq 7 (by omega) (w := wr) (c := cq) (fun _ => False) (fun k => k = q + 2) (fun _ e => e.elim) HF.out hpi (HSS.out.2 _ _ HOK.out) (fun c hc => by subst hc; exact ⟨_, HLB.out.head, fun k hk => (HLB.out.row k hk).2.1⟩))
  have HI0 : Hid (FieldI S os q w wr [] wr) := Lib.hid ⟨.slice none 0 0, HLB.out, KpP.refl _ _ _, HBR.out, Nat.zero_le _⟩
  clear hpi hq HS0 HO0 HL0
  gi_wp2_with fail
  refine range_world2 rfl (by omega) (I := FieldI S os q w wr) (Ix := fun _ _ _ => False) (gf := 131) (lb := #[.pointer (some ⟨cq, 0, none⟩)]) rfl trivial (fun _ _ => by kernel_rfl) HSEQ.out KpP.trans (fun W' o o' ho hc _ => KpP.put o' (.inr rfl) ho hc) (Below.refl _ _) (fun _ => rfl)
    (fieldI_own HBR.out.size (Nat.le_refl _)) (fun c s A B row hs hg hr => hs) (fun s A B row hs hg hr => hs) (fun s A B row hs hg hr => hs) HI0.out ?round ?done ?stop
  case stop =>
    rintro D c pre W hD hS hI hK
    exact hI.elim
  case round =>
    rintro pre ⟨x, x2⟩ Wa W K ⟨v1, l0, k0, b0, hl1⟩ hT hsz hK
    have HK := Lib.hid hK
    clear hK
    simp only [encA]
    simp
    gi_wp2
    refine HK.out _ ?_
    clear HK
    obtain ⟨hmx, hlx⟩ := prefix_mem hT
    obtain ⟨k, hk, rfl, hof, _⟩ := HW.out.onField hn1 hmx
    have hsW := box_kept HSB.out k0 (fun e => e) (off_one HLB.out.head (by omega) (fun e => by cases e))
    have hoW := box_kept HOB.out k0 (fun e => e) (off_one HLB.out.head (by omega) (fun e => by cases e))
    have hst := HH.out.later b0
    obtain ⟨g, cap, hgv, ⟨o0, o1, o2, o3, o4, o5, o6, o7, o8, o9, o10⟩, _⟩ := own_obj hst.ob k hk
    have cb2 : W.cell? ⟨b, 2, none⟩ = some (.slice (some ⟨g, 0, none⟩) S.objs.length cap) := by rw [cell_of_row W b 2 _ _ _ hst.hd, ← hgv]; rfl
    obtain ⟨y, hy⟩ : ∃ y, S.objs[k] = y := ⟨_, rfl⟩
    rw [hy] at hof o0 o1 o2 o3 o4 o5 o6 o7 o8 o9 o10
    have cs := hsW.cell
    have co := hoW.cell
    have cl := l0.head.cell
    obtain ⟨xa1, xc1, rfl⟩ := own_form l0.own
    have d2 : (k : Int) + 1 - 1 = k := by omega
    have dw : IntKind.i64.wrap (k : Int) = k := IntWalk.i64_in _ (by omega)
    have d3 : (0 : Int) ≤ k := by omega
    have d4 : (k : Int) < S.objs.length := by omega
    have hsel := selO_snoc S os (fsts pre) ((k : Int) + 1)
    rw [hof] at hsel
    have HSEL := Lib.hid (show selO S os (fsts (pre ++ [((k : Int) + 1, x2)])) = if ownB os y then selO S os (fsts pre) ++ [y] else selO S os (fsts pre) by
      rw [← hsel]; simp [fsts])
    have hplen : (selO S os (fsts pre)).length ≤ 1000 := Nat.le_trans (selO_len _ _ _) (by have := HSS.out.2 _ _ HOK.out; simp [fsts]; omega)
    have HL1 := Lib.hid l0
    have HK1 := Lib.hid k0
    have HB1 := Lib.hid b0
    have HLX := Lib.hid hlx
    obtain ⟨W', hW'⟩ : ∃ W', W.alloc (.cells #[.int .i64 y.id, .int .i64 y.card, .int .i64 y.owner, .int .i64 y.zone, .bool y.tapped, .bool y.sick, .int .i64 y.hurt, .int .i64 y.count, .int .i64 y.boost, .int .i64 y.block, .bool y.attacks] 30) = W' := ⟨_, rfl⟩
    have HBW := Lib.hid (hW' ▸ below_new W _ : Below W.heap.size W W')
    have HYB := Lib.hid (hW' ▸ heap_alloc_new W _ : W'.heap[W.heap.size]? = some (.cells (ocs y) 30 (0, 0)))
    have cs' := cell_stays HBW.out cs
    have co' := cell_stays HBW.out co
    have cl' := cell_stays HBW.out cl
    subst hW'
    clear hT hsz hsW hoW hst hgv hsel l0 k0 b0 hmx hof hlx co cl hy
    by_cases he : os = []
    · subst he
      have HOB1 := Lib.hid (show ownB [] y = true from rfl)
      rw [HOB1.out, if_pos rfl] at HSEL
      gi_wp2_with fail
      refine ⟨trivial, ?_⟩
      gi_wp2_with (gi_at_builtin; refine wpListIn_append_obj rfl _ _ rfl rfl (q + 3) _ (selO S [] (fsts pre)) y (W.heap.size + 1) rfl (((HL1.out.later (below_new _ _)).later (below_new _ _)).own) rfl (heap_two _ _ _) hplen (by have := HK1.out.size; have := HSR.out; simp; omega) ?f)
      case f =>
        intro v' w6 hown hgrow hnew
        have hg6 := (World.grownBy_alloc W _ _).trans ((World.grownBy_alloc _ _ _).trans hgrow)
        have hsep : ∀ c, c = q + 2 → (Value.slice xa1 (selO S [] (fsts pre)).length xc1).ownBlock ≠ some c := fun c hc e => by subst hc; exact (HL1.out.row _ e).2.2 rfl
        have hN : Newer W (Value.slice xa1 (selO S [] (fsts pre)).length xc1).ownBlock v'.ownBlock := by
          rcases hnew with e | e
          · exact .inl e
          · exact .inr ⟨_, e, by (try simp); omega⟩
        obtain ⟨l7, k7, h6⟩ := RowIn.snoc (E := fun _ => False) (H := fun k => k = q + 2) HL1.out rfl hg6 hown hN hsep
        have c6 := h6.cell
        have f6 := h6.frozen
        have hqw := HQQ.out
        have HB7 := Lib.hid (show Below w.heap.size w (w6.setCell ⟨q + 2, 0, none⟩ v') from (HB1.out.grown hg6 HB1.out.size (fun c e => by have := (HL1.out.row c e).1; omega)).setCell (by show w.heap.size ≤ q + 2; omega) v')
        obtain ⟨xa7, xc7, hv7⟩ := own_form hown
        subst hv7
        have HL7 := Lib.hid l7
        have HK7 := Lib.hid k7
        clear hown hgrow hnew hg6 hsep hN l7 k7 h6
        gi_wp2
        have hL : RowIn 75 30 11 (w6.setCell ⟨q + 2, 0, none⟩ (.slice xa7 ((selO S [] (fsts pre)).length + 1) xc7)) (q + 3) (q + 2) (.slice xa7 ((selO S [] (fsts pre)).length + 1) xc7) (selO S [] (fsts (pre ++ [((k : Int) + 1, x2)]))).length (objsV (selO S [] (fsts (pre ++ [((k : Int) + 1, x2)])))) := by
          rw [HSEL.out, List.length_append, List.length_singleton]
          exact HL7.out
        exact ⟨HK7.out.from (fun k e => e.elim), HK7.out.mono (fun k h => .inl h), _, hL, HK1.out.trans HK7.out, HB7.out, by rw [List.length_append]; exact HLX.out⟩
    · have hpos : 0 < os.length := List.length_pos_iff.2 he
      have e0 : ((os.length : Int) == 0) = false := beq_eq_false_iff_ne.2 (by omega)
      obtain ⟨cb, hcb⟩ : ∃ cb, os.contains y.owner = cb := ⟨_, rfl⟩
      have hob : ownB os y = cb := by
        unfold ownB
        rw [hcb, show os.isEmpty = false by cases os; simp at hpos; rfl]
        rfl
      rw [hob] at HSEL
      have HNU := Lib.hid (nums_of ((HU.out.later HB1.out).later (below_new W (.cells (ocs y) 30))) hpos)
      unfold ocs at HNU
      have HCB := Lib.hid hcb
      clear hob hcb he
      gi_wp2_with fail
      refine ⟨trivial, ?_⟩
      refine CallsIn.mono (F := Fence.wide) (callsIn_wide.2 (Crd.contains_any _ os y.owner _ (by omega) HNU.out)) ?_
      rw [HCB.out]
      rintro e w5 ⟨rfl, rfl⟩
      cases cb
      · dsimp only
        gi_wp2
        have hL := HL1.out.later (below_new W (.cells (ocs y) 30))
        unfold ocs at hL
        have hsel2 := HSEL.out
        rw [if_neg (by decide)] at hsel2
        rw [← hsel2] at hL
        exact ⟨(KpP.of_below (fun _ => False) (fun k => k = q + 2) (below_new W _)).from (fun k e => e.elim), KpP.of_below _ _ (below_new W _), _, hL, HK1.out.trans (KpP.of_below _ _ (below_new W _)), below_alloc2 HB1.out _, by rw [List.length_append]; exact HLX.out⟩
      · rw [if_pos rfl] at HSEL
        dsimp only
        gi_wp2_with (gi_at_builtin; refine wpListIn_append_obj rfl _ _ rfl rfl (q + 3) _ (selO S os (fsts pre)) y (W.heap.size + 1) rfl (((HL1.out.later (below_new _ _)).later (below_new _ _)).own) rfl (heap_two _ _ _) hplen (by have := HK1.out.size; have := HSR.out; simp; omega) ?f)
        case f =>
          intro v' w6 hown hgrow hnew
          have hg6 := (World.grownBy_alloc W _ _).trans ((World.grownBy_alloc _ _ _).trans hgrow)
          have hsep : ∀ c, c = q + 2 → (Value.slice xa1 (selO S os (fsts pre)).length xc1).ownBlock ≠ some c := fun c hc e => by subst hc; exact (HL1.out.row _ e).2.2 rfl
          have hN : Newer W (Value.slice xa1 (selO S os (fsts pre)).length xc1).ownBlock v'.ownBlock := by
            rcases hnew with e | e
            · exact .inl e
            · exact .inr ⟨_, e, by (try simp); omega⟩
          obtain ⟨l7, k7, h6⟩ := RowIn.snoc (E := fun _ => False) (H := fun k => k = q + 2) HL1.out rfl hg6 hown hN hsep
          have c6 := h6.cell
          have f6 := h6.frozen
          have hqw := HQQ.out
          have HB7 := Lib.hid (show Below w.heap.size w (w6.setCell ⟨q + 2, 0, none⟩ v') from (HB1.out.grown hg6 HB1.out.size (fun c e => by have := (HL1.out.row c e).1; omega)).setCell (by show w.heap.size ≤ q + 2; omega) v')
          obtain ⟨xa7, xc7, hv7⟩ := own_form hown
          subst hv7
          have HL7 := Lib.hid l7
          have HK7 := Lib.hid k7
          clear hown hgrow hnew hg6 hsep hN l7 k7 h6
          gi_wp2
          have hL : RowIn 75 30 11 (w6.setCell ⟨q + 2, 0, none⟩ (.slice xa7 ((selO S os (fsts pre)).length + 1) xc7)) (q + 3) (q + 2) (.slice xa7 ((selO S os (fsts pre)).length + 1) xc7) (selO S os (fsts (pre ++ [((k : Int) + 1, x2)]))).length (objsV (selO S os (fsts (pre ++ [((k : Int) + 1, x2)])))) := by
            rw [HSEL.out, List.length_append, List.length_singleton]
            exact HL7.out
          exact ⟨HK7.out.from (fun k e => e.elim), HK7.out.mono (fun k h => .inl h), _, hL, HK1.out.trans HK7.out, HB7.out, by rw [List.length_append]; exact HLX.out⟩
  case done =>
    rintro D ys W hD hS ⟨v1, l0, k0, b0, hl1⟩ hK
    subst hS
    have hz : fsts (S.pl 0 3).zipIdx = S.pl 0 3 := by simp [fsts, List.zipIdx_map_fst]
    rw [hz] at l0
    have cl := l0.head.cell
    have HL1 := Lib.hid l0
    have HB1 := Lib.hid b0
    obtain ⟨xa1, xc1, rfl⟩ := own_form l0.own
    clear l0 k0 b0 hz
    gi_wp2
    refine ⟨by simp, .inl ⟨_, _, rfl, run_takeDeferred hK, ?_⟩⟩
    refine ⟨_, results_tmp rfl _ _ _, _, rfl, ?_, ?_⟩
    · exact own_mono (ownsRow_putObj HL1.out.own _ hK rfl) (by have hq := HQQ.out; omega)
    · exact HB1.out.trans (belowK_b (w := w) (Nat.le_refl _) W D _ _ (by have := HSR.out; have := HQQ.out; omega) hK rfl rfl)
end Go.Proofs.YtjgjhfeopmakaaaGreat
