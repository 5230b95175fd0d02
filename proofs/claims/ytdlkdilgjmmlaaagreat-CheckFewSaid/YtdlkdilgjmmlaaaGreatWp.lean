/- The law CheckFew, walked. -/
import Derived.Test.YtdlkdilgjmmlaaaGreatWo
import Derived.Deep.Cut
import Derived.Deep.DeepCutAuto
namespace Go.Proofs.YtdlkdilgjmmlaaaGreat
open Go.RowKit Go.Maps
attribute [local go_sem] Oper.semAt_some

/-! Plain facts: who dies, and who stays as it was. -/
theorem runD_dies (B : BoardL) : runD B = diesL B.S := by
  unfold runD
  cases hs : stableT B with
  | false => rw [if_neg (by decide)]
  | true =>
    rw [if_pos rfl]
    unfold stableT at hs
    have h1 := (Bool.and_eq_true_iff.1 hs).1
    exact (List.isEmpty_iff.1 h1).symm
theorem runB_S (B : BoardL) : (runB B).S = buryS B.S (diesL B.S) := by
  unfold runB
  cases hs : stableT B with
  | false => rw [if_neg (by decide)]; rfl
  | true =>
    rw [if_pos rfl]
    unfold stableT at hs
    have h1 := List.isEmpty_iff.1 (Bool.and_eq_true_iff.1 hs).1
    rw [h1]
    rfl
theorem few_died {w : World} {lo : Nat} {g : GhostB} {B : BoardL} (h : BoardAt w lo g B) (i : Int) : decide (i ∈ runD B) = deadS B.S i := by
  rw [runD_dies]
  cases hd : deadS B.S i with
  | true => exact decide_eq_true ((mem_dies h.wf h.st.n1).2 hd)
  | false => exact decide_eq_false fun e => by have := (mem_dies h.wf h.st.n1).1 e; rw [hd] at this; cases this
theorem few_obj {w : World} {lo : Nat} {g : GhostB} {B : BoardL} (h : BoardAt w lo g B) {x : ObjL} (hx : x ∈ fieldL B.S []) : x.zone = 3 ∧ (deadS B.S x.id = false → objI (runB B).S x.id = x) ∧ (deadS B.S x.id = true → (objI (runB B).S x.id).zone = 5) := by
  obtain ⟨k, hk, hx, hid, hz, _⟩ := field_mem h.wf h.st.n1 hx
  have hs : hasS B.S x.id := by unfold hasS; omega
  have ho : objOf B.S x.id = x := by rw [hid, objOf_at hk, hx]
  have hb := bury_obj (dies_has h.wf h.st.n1) hs
  have hs2 : hasS (runB B).S x.id := by rw [runB_S]; exact (keeps_bury B.S (diesL B.S)).has hs
  have e : objI (runB B).S x.id = objOf (runB B).S x.id := if_pos hs2
  rw [e, runB_S, hb]
  refine ⟨hz, fun hd => ?_, fun hd => ?_⟩
  · rw [if_neg (fun e => by have := (mem_dies h.wf h.st.n1).1 e; rw [hd] at this; cases this)]
    exact ho
  · rw [if_pos ((mem_dies h.wf h.st.n1).2 hd)]
    rfl
theorem results_c6 {fn : Func} {tmps : Array Value} {W : World} {b : Nat} {v : Bool} (h : fn.results = #[.cell 6 4]) (ht : tmps.getD 6 undef = .pointer (some ⟨b, 0, none⟩)) (hc : HdAt W b (.bool v)) : (results fn tmps).run Tryz.prog W = .ok (.bool v) W := by
  have hc := hc.cell
  simp only [Array.getD_eq_getD_getElem?] at ht
  simp [results, h, go_sem, ht, hc]
/-! Run of no board, and of no stack. -/
set_option maxRecDepth 100000 in
set_option maxHeartbeats 4000000 in
theorem run_none {p q : Option Addr} (hpq : p = none ∨ q = none) (active : Int) (w : World) : Calls Tryz.prog 25 #[.pointer p, .pointer q, .int .i64 active] w (RetV w (.agg #[.slice none 0 0, .slice none 0 0, .int .i64 0])) := by
  have hb0 := below_alloc2 (below_new w (.cells #[.slice none 0 0, .slice none 0 0, .int .i64 0] 54)) (.cells #[.slice none 0 0, .slice none 0 0, .int .i64 0] 54)
  have h6 := (below_new (w.alloc (.cells #[.slice none 0 0, .slice none 0 0, .int .i64 0] 54)) (.cells #[.slice none 0 0, .slice none 0 0, .int .i64 0] 54)).block w.heap.size (by simp)
  have h6 := h6.trans (heap_alloc_new w (.cells #[.slice none 0 0, .slice none 0 0, .int .i64 0] 54))
  have h7 := heap_two w (.cells #[.slice none 0 0, .slice none 0 0, .int .i64 0] 54) (.cells #[.slice none 0 0, .slice none 0 0, .int .i64 0] 54)
  have c0 := cell_of_row _ (w.heap.size + 1) 0 _ _ _ h7
  have c1 := cell_of_row _ (w.heap.size + 1) 1 _ _ _ h7
  have c2 := cell_of_row _ (w.heap.size + 1) 2 _ _ _ h7
  have d0 := cell_of_row _ w.heap.size 0 _ _ _ h6
  have d1 := cell_of_row _ w.heap.size 1 _ _ _ h6
  have d2 := cell_of_row _ w.heap.size 2 _ _ _ h6
  have f0 := fun j => frozen_of_row _ w.heap.size j _ _ h6
  have hr := h6
  have hbs := hb0
  have HR := Lib.hid hr
  have HBS := Lib.hid hbs
  clear hr hbs h6 h7 hb0
  rcases hpq with rfl | rfl
  · go_enter Tryz.func25, Tryz.ntmps25
    go_wp2
    refine ⟨rfl, _, results_run rfl rfl HR.out, rfl, HBS.out⟩
  · cases p with
    | none =>
      go_enter Tryz.func25, Tryz.ntmps25
      go_wp2
      refine ⟨rfl, _, results_run rfl rfl HR.out, rfl, HBS.out⟩
    | some a =>
      go_enter Tryz.func25, Tryz.ntmps25
      go_wp2
      refine ⟨rfl, _, results_run rfl rfl HR.out, rfl, HBS.out⟩
theorem calls_at {P : Program} {f : Nat} {args : Array Value} {W' V : World} {R : World → Ending → World → Prop} {post : Ending → World → Prop} (h : ∀ w', Below V.heap.size V w' → Calls P f args w' (R w')) (hb : Below V.heap.size V W') (hm : ∀ e w'', Below V.heap.size V W' → R W' e w'' → post e w'') : Calls P f args W' post :=
  (h W' hb).mono fun e w'' hr => hm e w'' hb hr
/-- Behind Run: the report in its box, the board checked, its copy as it was; of what lay there before only the board's blocks have changed. -/
structure FewX (V X : World) (lo lc : Nat) (g g5 gc : GhostB) (B : BoardL) (q p : Nat) (v1 v2 : Value) : Prop where
  row : X.heap[p]? = some (.cells #[v1, v2, .int .i64 (runN B)] 54 (0, 0))
  bd : BoardAt X lo g5 (runB B)
  hq : g5.q = q
  cp : BoardAt X lc gc B
  dead : IntsAt X v1 (runD B)
  be : TurnedO V X g.own g5.own
/-- Behind Run, ahead of the store into the report's box. -/
structure FewP (V w5 : World) (lo lc : Nat) (g g5 gc : GhostB) (B : BoardL) (q base : Nat) (v1 : Value) : Prop where
  bd : BoardAt w5 lo g5 (runB B)
  hq : g5.q = q
  cp : BoardAt w5 lc gc B
  row : w5.ownsRow base 3 1 v1 (runD B).length (intsV (runD B))
  tu : TurnedO V w5 g.own g5.own
theorem few_pre {V W w5 : World} {lo lo' lc q b1 base : Nat} {k1 k5 : Option Nat} {g g5 gc : GhostB} {B : BoardL} {L : List EntL} {v1 : Value} (hb : Below V.heap.size V W) (hc : BoardAt V lc gc B) (hg : ∀ k, gc.own k → ¬g.own k) (hK : ∀ k, ownK b1 k1 k → V.heap.size ≤ k)
    (hbo : BothAt w5 lo lo' g5 b1 k5 (runB B) L) (hq : g5.q = q) (ht : TurnedO W w5 (own2 g b1 k1) (own2 g5 b1 k5)) (hd : w5.ownsRow base 3 1 v1 (runD B).length (intsV (runD B))) : FewP V w5 lo lc g g5 gc B q base v1 := by
  have hno : ∀ k, k < V.heap.size → ¬g.own k → ¬own2 g b1 k1 k := fun k h1 h2 e => by
    rcases e with e | e
    · exact h2 e
    · have := hK k e; omega
  refine ⟨hbo.bd, hq, (hc.later hb).kept ht.size (fun k hk => ht.block k ((hc.later hb).ownLt hk) (hno k (hc.ownLt hk) (hg k hk))), hd, ⟨ht.os.trans hb.os, ht.tape.trans hb.tape, ht.output.trans hb.output, Nat.le_trans hb.size ht.size, fun k h1 h2 => (ht.block k (Nat.lt_of_lt_of_le h1 hb.size) (hno k h1 h2)).trans (hb.block k h1), fun k h1 e => ?_⟩⟩
  rcases ht.own k (Nat.lt_of_lt_of_le h1 hb.size) (.inl e) with h | h
  · exact h
  · have := hK k h; omega
theorem few_leaf {V w5 X : World} {lo lc p q base : Nat} {g g5 gc : GhostB} {B : BoardL} {v1 v2 : Value} (hX : X = ((w5.setCell ⟨p, 0, none⟩ v1).setCell ⟨p, 1, none⟩ v2).setCell ⟨p, 2, none⟩ (.int .i64 (runN B)))
    (hz : w5.heap[p]? = some (.cells #[.slice none 0 0, .slice none 0 0, .int .i64 0] 54 (0, 0))) (hp : V.heap.size ≤ p) (hp5 : ¬g5.own p) (hf : FewP V w5 lo lc g g5 gc B q base v1) (hcV : ∀ k, gc.own k → k < V.heap.size) : FewX V X lo lc g g5 gc B q p v1 v2 := by
  have hk : ∀ k, k ≠ p → X.heap[k]? = w5.heap[k]? := fun k hk => by rw [hX, heap_setCell_other _ ⟨p, 2, none⟩ k _ hk, heap_setCell_other _ ⟨p, 1, none⟩ k _ hk, heap_setCell_other _ ⟨p, 0, none⟩ k _ hk]
  have hs : X.heap.size = w5.heap.size := by rw [hX]; simp
  have ho : X.os = w5.os ∧ X.tape = w5.tape ∧ X.output = w5.output := by rw [hX]; exact ⟨rfl, rfl, rfl⟩
  have hrow : X.heap[p]? = some (.cells #[v1, v2, .int .i64 (runN B)] 54 (0, 0)) := by rw [hX]; exact rep2 _ (rep1 _ (rep0 _ hz))
  have hne := own_ne hf.row hz
  have ht := hf.tu
  exact ⟨hrow, hf.bd.kept (Nat.le_of_eq hs.symm) (fun k e => hk k (fun e2 => hp5 (by rw [← e2]; exact e))), hf.hq, hf.cp.kept (Nat.le_of_eq hs.symm) (fun k e => hk k (by have := hcV k e; omega)), own_ints (own_keepS hf.row (fun k e => hk k (hne k e))),
    ⟨ho.1.trans ht.os, ho.2.1.trans ht.tape, ho.2.2.trans ht.output, by have := ht.size; omega, fun k h1 h2 => (hk k (by omega)).trans (ht.block k h1 h2), ht.own⟩⟩
theorem few_leaf5 {V w5 : World} {lo lc q base : Nat} {g g5 gc : GhostB} {B : BoardL} {v1 v2 : Value} (hf : FewP V w5 lo lc g g5 gc B q base v1) : FewX V (w5.alloc (.cells #[v1, v2, .int .i64 (runN B)] 54)) lo lc g g5 gc B q w5.heap.size v1 v2 := by
  have hb := below_new w5 (.cells #[v1, v2, .int .i64 (runN B)] 54)
  exact ⟨heap_alloc_new w5 _, hf.bd.later hb, hf.hq, hf.cp.later hb, (own_ints hf.row).later hb, hf.tu.trans (TurnedO.of_below hb)⟩
theorem set11row {W : World} {b : Nat} {xs : Array Value} {T : TypeId} (v0 v1 v2 v3 v4 v5 v6 v7 v8 v9 v10 : Value) (h : W.heap[b]? = some (.cells xs T (0, 0))) (hx : xs.size = 11) :
    (((((((((((W.setCell ⟨b, 0, none⟩ v0).setCell ⟨b, 1, none⟩ v1).setCell ⟨b, 2, none⟩ v2).setCell ⟨b, 3, none⟩ v3).setCell ⟨b, 4, none⟩ v4).setCell ⟨b, 5, none⟩ v5).setCell ⟨b, 6, none⟩ v6).setCell ⟨b, 7, none⟩ v7).setCell ⟨b, 8, none⟩ v8).setCell ⟨b, 9, none⟩ v9).setCell ⟨b, 10, none⟩ v10).heap[b]? = some (.cells #[v0, v1, v2, v3, v4, v5, v6, v7, v8, v9, v10] T (0, 0)) := by
  obtain ⟨l⟩ := xs
  match l, hx with
  | [u0, u1, u2, u3, u4, u5, u6, u7, u8, u9, u10], _ =>
    have h0 := heap_setCell_same _ b 0 _ _ v0 h
    have h1 := heap_setCell_same _ b 1 _ _ v1 h0
    have h2 := heap_setCell_same _ b 2 _ _ v2 h1
    have h3 := heap_setCell_same _ b 3 _ _ v3 h2
    have h4 := heap_setCell_same _ b 4 _ _ v4 h3
    have h5 := heap_setCell_same _ b 5 _ _ v5 h4
    have h6 := heap_setCell_same _ b 6 _ _ v6 h5
    have h7 := heap_setCell_same _ b 7 _ _ v7 h6
    have h8 := heap_setCell_same _ b 8 _ _ v8 h7
    have h9 := heap_setCell_same _ b 9 _ _ v9 h8
    have h10 := heap_setCell_same _ b 10 _ _ v10 h9
    rw [h10]
    simp
theorem below_ownI {w : World} : OwnFrom w.heap.size (fun (_ : List ObjL) (W : World) => Below w.heap.size w W) := by
  rintro s X Y row h hg hr
  exact h.grown hg h.size (fun k e => (hr k e).1)
theorem anyS_two {F : Fence} {n : Nat} {P : Program} {md : Region.Mode} {ops : Array Oper} {Q : Exit → Act → World → Prop} {S : World → Prop} {i j : Nat} {o o' : Oper} {fuel : Nat} {listed : Array Bool} {a : Act} {w : World} (hr : Region.ready md ops listed = [i, j]) (ho : ops[i]? = some o) (ho' : ops[j]? = some o') (hS : S w)
    (hw : Region.wanted o (yielded ops a.tmps) = true) (hw' : Region.wanted o' (yielded ops a.tmps) = true)
    (h : ∀ K' : Act → World → Prop, (∀ a w, anyS F n P md ops Q S fuel (listed.setIfInBounds i true) a w → K' a w) → Oper.wpIn F n P o a w K' Q)
    (h' : ∀ K' : Act → World → Prop, (∀ a w, anyS F n P md ops Q S fuel (listed.setIfInBounds j true) a w → K' a w) → Oper.wpIn F n P o' a w K' Q) :
    anyS F n P md ops Q S (fuel + 1) listed a w := by
  unfold anyS
  refine ⟨hS, fun e => absurd (hr.symm.trans e) (by simp), fun k hk => ?_⟩
  rw [hr] at hk
  rcases List.mem_cons.1 hk with rfl | hk
  · unfold wpOpIn
    rw [ho]
    dsimp only
    rw [if_pos hw]
    exact h _ fun _ _ h => h
  · obtain rfl := List.mem_singleton.1 hk
    unfold wpOpIn
    rw [ho']
    dsimp only
    rw [if_pos hw']
    exact h' _ fun _ _ h => h
theorem keepA2 {w : World} {o : Obj} {a b : Addr} {u v : Value} (h : w.cell? a = some u ∧ w.cell? b = some v) : (w.alloc o).cell? a = some u ∧ (w.alloc o).cell? b = some v := ⟨cell_stays (below_new w o) h.1, cell_stays (below_new w o) h.2⟩
theorem keepS2 {w : World} {a b i j p : Nat} {u v u0 u1 u2 : Value} (h : w.cell? ⟨a, i, none⟩ = some u ∧ w.cell? ⟨b, j, none⟩ = some v) (h1 : a ≠ p) (h2 : b ≠ p) : (((w.setCell ⟨p, 0, none⟩ u0).setCell ⟨p, 1, none⟩ u1).setCell ⟨p, 2, none⟩ u2).cell? ⟨a, i, none⟩ = some u ∧ (((w.setCell ⟨p, 0, none⟩ u0).setCell ⟨p, 1, none⟩ u1).setCell ⟨p, 2, none⟩ u2).cell? ⟨b, j, none⟩ = some v := by
  have e : ∀ k, k ≠ p → (((w.setCell ⟨p, 0, none⟩ u0).setCell ⟨p, 1, none⟩ u1).setCell ⟨p, 2, none⟩ u2).heap[k]? = w.heap[k]? := fun k hk => by rw [heap_setCell_other _ ⟨p, 2, none⟩ k _ hk, heap_setCell_other _ ⟨p, 1, none⟩ k _ hk, heap_setCell_other _ ⟨p, 0, none⟩ k _ hk]
  exact ⟨(World.cell?_of_block (e a h1)).trans h.1, (World.cell?_of_block (e b h2)).trans h.2⟩
theorem row_c0 {w : World} {k : Nat} (h : w.heap[k]? = some (.cells #[.slice none 0 0, .slice none 0 0, .int .i64 0] 54 (0, 0))) : w.cell? ⟨k, 0, none⟩ = some (.slice none 0 0) ∧ w.cell? ⟨k, 1, none⟩ = some (.slice none 0 0) ∧ w.cell? ⟨k, 2, none⟩ = some (.int .i64 0) := ⟨cell_of_row w k 0 _ _ (0, 0) h, cell_of_row w k 1 _ _ (0, 0) h, cell_of_row w k 2 _ _ (0, 0) h⟩
theorem row_f {w : World} {k : Nat} (j : Nat) (h : w.heap[k]? = some (.cells #[.slice none 0 0, .slice none 0 0, .int .i64 0] 54 (0, 0))) : w.frozen? ⟨k, j, none⟩ = false := frozen_of_row w k j _ _ h
theorem keepA {w : World} {o : Obj} {a : Addr} {v : Value} (h : w.cell? a = some v) : (w.alloc o).cell? a = some v := cell_stays (below_new w o) h
theorem keepD {w : World} {a : Addr} {v : Value} (h : w.cell? a = some v) : w.drew.cell? a = some v := cell_stays (Below.refl _ _).drew h
theorem keepS3 {w : World} {q p i j k m : Nat} {v u0 u1 u2 : Value} (h : w.cell? ⟨q, i, none⟩ = some v) (hne : q ≠ p) : (((w.setCell ⟨p, j, none⟩ u0).setCell ⟨p, k, none⟩ u1).setCell ⟨p, m, none⟩ u2).cell? ⟨q, i, none⟩ = some v := by
  have e : (((w.setCell ⟨p, j, none⟩ u0).setCell ⟨p, k, none⟩ u1).setCell ⟨p, m, none⟩ u2).heap[q]? = w.heap[q]? := by rw [heap_setCell_other _ ⟨p, m, none⟩ q _ hne, heap_setCell_other _ ⟨p, k, none⟩ q _ hne, heap_setCell_other _ ⟨p, j, none⟩ q _ hne]
  rw [← h]
  simp [World.cell?, e]
set_option maxRecDepth 100000 in
set_option maxHeartbeats 400000000 in
theorem checkFew_walk (a b : Int) {w : World} {v u : Value} {l : List TriL} {x : StL} (hv : TrisAt w v l) (hw : ∀ x ∈ l, Wf x.y ∧ Wf x.z) (hlen : l.length ≤ 9223372036854775807) (hu : StAt w u x) :
    Calls Tryz.prog 4 #[v, .agg #[.int .i64 a, .int .i64 b], u] w (RetV w (.bool true)) := by
  have HAW := Lib.hid (fun (w' : World) => awake14_any w')
  have HNK := Lib.hid (fun (w' : World) => new_stk (w := w') (v := .slice none 0 0) (l := []) (.inl ⟨none, 0, rfl, rfl⟩) (by decide))
  obtain ⟨s, hs4, hse⟩ := and3 a
  have hs8 : IntKind.u8.wrap (s : Int) = (s : Int) := by simp [IntKind.wrap, IntKind.signed, IntKind.bits]; omega
  have HBO := Lib.hid (fun (w' : World) (hb : Below w.heap.size w w') => board14_any (hv.later hb) hw hlen s (by omega) (hu.later hb))
  obtain ⟨u0, u1, u2, u3, rfl, i0, i1, i2, i3⟩ := hu
  obtain ⟨y0, z0, rfl⟩ := i0.form
  obtain ⟨y1, z1, rfl⟩ := i1.form
  obtain ⟨y2, z2, rfl⟩ := i2.form
  obtain ⟨y3, z3, rfl⟩ := i3.form
  obtain ⟨va, vc, rfl⟩ := hv.form
  have hb0 := below_alloc2 (below_new w (.cells #[.int .i64 a, .int .i64 b] 23)) (.cells #[.slice y0 x.hu.length z0, .slice y1 x.co.length z1, .slice y2 x.ga.length z2, .slice y3 x.po.length z3, .int .i64 x.dry] 26)
  have hri : ((w.alloc (.cells #[.int .i64 a, .int .i64 b] 23)).alloc (.cells #[.slice y0 x.hu.length z0, .slice y1 x.co.length z1, .slice y2 x.ga.length z2, .slice y3 x.po.length z3, .int .i64 x.dry] 26)).heap[w.heap.size]? = some (.cells #[.int .i64 a, .int .i64 b] 23 (0, 0)) := ((below_new (w.alloc (.cells #[.int .i64 a, .int .i64 b] 23)) (.cells #[.slice y0 x.hu.length z0, .slice y1 x.co.length z1, .slice y2 x.ga.length z2, .slice y3 x.po.length z3, .int .i64 x.dry] 26)).block _ (by simp)).trans (heap_alloc_new w (.cells #[.int .i64 a, .int .i64 b] 23))
  have hrs : ((w.alloc (.cells #[.int .i64 a, .int .i64 b] 23)).alloc (.cells #[.slice y0 x.hu.length z0, .slice y1 x.co.length z1, .slice y2 x.ga.length z2, .slice y3 x.po.length z3, .int .i64 x.dry] 26)).heap[w.heap.size + 1]? = some (.cells #[.slice y0 x.hu.length z0, .slice y1 x.co.length z1, .slice y2 x.ga.length z2, .slice y3 x.po.length z3, .int .i64 x.dry] 26 (0, 0)) := heap_two _ _ _
  obtain ⟨W, hW⟩ : ∃ W, (w.alloc (.cells #[.int .i64 a, .int .i64 b] 23)).alloc (.cells #[.slice y0 x.hu.length z0, .slice y1 x.co.length z1, .slice y2 x.ga.length z2, .slice y3 x.po.length z3, .int .i64 x.dry] 26) = W := ⟨_, rfl⟩
  obtain ⟨q4, hq4⟩ : ∃ q4, w.heap.size = q4 := ⟨_, rfl⟩
  obtain ⟨q5, hq5⟩ : ∃ q5, w.heap.size + 1 = q5 := ⟨_, rfl⟩
  rw [hW] at hb0 hri hrs
  rw [hq5] at hrs
  rw [hq4] at hri
  have HB0 := Lib.hid hb0
  have HW := Lib.hid hW
  have HQ4 := Lib.hid hq4
  have HQ5 := Lib.hid hq5
  have HIX := Lib.hid (show ∀ w' : World, Below W.heap.size W w' → w'.cell? ⟨q4, 0, none⟩ = some (.int .i64 a) ∧ w'.cell? ⟨q4, 1, none⟩ = some (.int .i64 b) ∧ w'.cell? ⟨q5, 0, none⟩ = some (.slice y0 x.hu.length z0) ∧ w'.cell? ⟨q5, 1, none⟩ = some (.slice y1 x.co.length z1) ∧ w'.cell? ⟨q5, 2, none⟩ = some (.slice y2 x.ga.length z2) ∧ w'.cell? ⟨q5, 3, none⟩ = some (.slice y3 x.po.length z3) ∧ w'.cell? ⟨q5, 4, none⟩ = some (.int .i64 x.dry) from fun w' hb => by
    have h1 := (hb.block _ (Array.getElem?_eq_some_iff.1 hri).1).trans hri
    have h2 := (hb.block _ (Array.getElem?_eq_some_iff.1 hrs).1).trans hrs
    exact ⟨cell_of_row w' q4 0 _ _ (0, 0) h1, cell_of_row w' q4 1 _ _ (0, 0) h1, cell_of_row w' q5 0 _ _ (0, 0) h2, cell_of_row w' q5 1 _ _ (0, 0) h2, cell_of_row w' q5 2 _ _ (0, 0) h2, cell_of_row w' q5 3 _ _ (0, 0) h2, cell_of_row w' q5 4 _ _ (0, 0) h2⟩)
  clear hv hw hlen i0 i1 i2 i3 hb0 hri hrs hW hq4 hq5
  have HSW := Lib.hid (show W.heap.size = w.heap.size + 1 + 1 by rw [← HW.out]; simp)
  have HB6 := Lib.hid (below_new W (.cells #[.bool false] 4))
  have HX6 := Lib.hid (HdAt.new W (.bool false) 4)
  refine (callsIn_wide (n := 9)).1 ?_
  refine callsIn_of_wp_marks Tryz.func4 rfl trivial ?_ rfl
  simp only [Tryz.ntmps4, List.size_toArray, List.length_cons, List.length_nil, Nat.reduceAdd, Nat.reduceSub, Array.replicate_succ, Array.replicate_zero, List.push_toArray, List.append_toArray, List.nil_append, List.cons_append]
  refine wpIn_wide.2 ?_
  go_wp2_with fail
  rw [HW.out]
  try simp only [World.size_alloc]
  rw [← HSW.out]
  rw [HQ5.out, HQ4.out]
  obtain ⟨W6, hW6⟩ : ∃ W6, W.alloc (.cells #[.bool false] 4) = W6 := ⟨_, rfl⟩
  obtain ⟨q6, hq6⟩ : ∃ q6, W.heap.size = q6 := ⟨_, rfl⟩
  rw [hW6] at HB6 HX6 ⊢
  rw [hq6] at HX6 ⊢
  have HQ6 := Lib.hid hq6
  clear hW6 hq6
  refine (HAW.out W6).mono ?_
  rintro e w1 ⟨rfl, hb1⟩
  have HB1 := Lib.hid (stepB HB6.out hb1)
  have HX1 := Lib.hid (HX6.out.later hb1)
  obtain ⟨c0, c1, c2, c3, c4, c5, c6⟩ := HIX.out w1 HB1.out
  clear hb1 HAW HX6
  dsimp only
  go_wp2_with fail
  refine (HBO.out _ (stepB HB0.out HB1.out)).mono ?_
  clear c0 c1 c2 c3 c4 c5 c6
  rintro e w2 (⟨hp, lo, g, rfl, hbd, hlo, hb2⟩ | ⟨_, rfl, hb2⟩)
  case inr =>
    have HB2 := Lib.hid (stepB HB0.out (stepB HB1.out (stepB hb2 (below_new w2 (.cells #[.pointer none] 28)))))
    have hx2 := (HX1.out.later hb2).later (below_new w2 (.cells #[.pointer none] 28))
    have k6 := hx2.cell
    have f6 := hx2.frozen
    have HX2 := Lib.hid (hx2.set (.bool true))
    have h7 := cell_of_row _ w2.heap.size 0 _ _ _ (heap_alloc_new w2 (.cells #[.pointer none] 28))
    have HS2 := Lib.hid (HB2.out.setCell (by show w.heap.size ≤ q6; have h1 := HSW.out; have h2 := HQ6.out; omega) (.bool true) (p := ⟨q6, 0, none⟩))
    clear hb2 hx2
    dsimp only
    go_wp2
    refine leaves_marksO (B := w.heap.size) [] _ (by simp) (fun D' hD' => by cases hD') (fun D' hD' => by cases hD') (fun W9 hb9 hc9 => ?_)
    exact ⟨_, results_c6 rfl rfl (by obtain ⟨t, h⟩ := HX2.out; exact ⟨t, hc9 _ _ h rfl⟩), rfl, HS2.out.trans hb9⟩
  have hln : (board14 l s x).S.objs.length ≤ 800 := by rw [b14_len hp.1.2]; have := hp.1.1; omega
  obtain ⟨B, hB⟩ : ∃ B, board14 l s x = B := ⟨_, rfl⟩
  rw [hB] at hbd hln
  have HLN := Lib.hid hln
  have HBD := Lib.hid hbd
  have HLO := Lib.hid (show ∀ k, g.own k → q6 < k ∧ k < w2.heap.size from fun k hk => ⟨Nat.lt_of_lt_of_le HX1.out.lt (Nat.le_trans hlo (hbd.ownLo hk)), hbd.ownLt hk⟩)
  have HB2 := Lib.hid (stepB HB1.out hb2)
  have HX2 := Lib.hid (HX1.out.later hb2)
  have HCP := Lib.hid (fun (w' : World) (hb : Below w2.heap.size w2 w') => bcopy_any (hbd.later hb))
  obtain ⟨q, hq⟩ : ∃ q, g.q = q := ⟨_, rfl⟩
  have HQ := Lib.hid hq
  rw [hq] at HCP ⊢
  have h7 := cell_of_row _ w2.heap.size 0 _ _ _ (heap_alloc_new w2 (.cells #[.pointer (some ⟨q, 0, none⟩)] 28))
  clear hp hbd hlo hb2 hln hB hq HX1 HBO
  dsimp only
  go_wp2_with fail
  refine (HCP.out _ (below_new w2 _)).mono ?_
  rintro e w3 ⟨gc, rfl, hbc, hb3⟩
  have hb23 := stepB (below_new w2 (.cells #[.pointer (some ⟨q, 0, none⟩)] 28)) hb3
  obtain ⟨qc, hqc⟩ : ∃ qc, gc.q = qc := ⟨_, rfl⟩
  have HQC := Lib.hid hqc
  rw [hqc]
  have hbV := below_new w3 (.cells #[.pointer (some ⟨qc, 0, none⟩)] 28)
  have hV8 := cell_of_row _ w3.heap.size 0 _ _ _ (heap_alloc_new w3 (.cells #[.pointer (some ⟨qc, 0, none⟩)] 28))
  have hV7 := cell_stays hbV (cell_stays hb3 h7)
  clear h7
  dsimp only
  go_wp2
  obtain ⟨V, hV⟩ : ∃ V, w3.alloc (.cells #[.pointer (some ⟨qc, 0, none⟩)] 28) = V := ⟨_, rfl⟩
  obtain ⟨a7, ha7⟩ : ∃ a7, w2.heap.size = a7 := ⟨_, rfl⟩
  obtain ⟨a8, ha8⟩ : ∃ a8, w3.heap.size = a8 := ⟨_, rfl⟩
  rw [hV] at hbV hV7 hV8 ⊢
  rw [ha7] at hV7 ⊢
  rw [ha8] at hV8 ⊢
  have HBV := Lib.hid (HBD.out.later (stepB hb23 hbV))
  have HCV : Hid (BoardAt V (w2.heap.size + 1) gc B) := Lib.hid (by have h := hbc.later hbV; rw [World.size_alloc] at h; exact h)
  have HGO := Lib.hid (show ∀ k, g.own k → q6 < k ∧ k < a7 from fun k hk => by have := HLO.out k hk; omega)
  have HGC := Lib.hid (show ∀ k, gc.own k → a7 < k ∧ k < a8 from fun k hk => by have h1 := hbc.ownLo hk; have h2 := hbc.ownLt hk; simp at h1; omega)
  have HVS := Lib.hid (show a7 < a8 ∧ a8 < V.heap.size from by have h1 := hb3.size; simp at h1; have h2 : V.heap.size = w3.heap.size + 1 := by { rw [← hV]; simp }; omega)
  have HVW := Lib.hid (stepB HB2.out (stepB hb23 hbV))
  have HXV := Lib.hid (HX2.out.later (stepB hb23 hbV))
  have HV7 := Lib.hid hV7
  have HV8 := Lib.hid hV8
  have HV4 := Lib.hid (HIX.out V HVW.out).2.1
  have HQ46 := Lib.hid (show q4 < q6 from by have h1 := HQ4.out; have h2 := HQ6.out; have h3 := HSW.out; omega)
  have HSS := Lib.hid (show ∀ w' : World, (∀ k, k < V.heap.size → ¬g.own k → w'.heap[k]? = V.heap[k]?) → (w'.cell? ⟨a7, 0, none⟩ = some (.pointer (some ⟨q, 0, none⟩)) ∧ w'.cell? ⟨q4, 1, none⟩ = some (.int .i64 b)) from fun w' h => by
    have e7 := h a7 (by have := HVS.out; omega) (fun e => by have := HGO.out _ e; omega)
    have e4 := h q4 (by have h1 := HXV.out.lt; have h2 := HQ46.out; omega) (fun e => by have h1 := HGO.out _ e; have h2 := HQ46.out; omega)
    exact ⟨(World.cell?_of_block e7).trans HV7.out, (World.cell?_of_block e4).trans HV4.out⟩)
  have HGG := Lib.hid (show ∀ k, gc.own k → ¬g.own k from fun k h1 h2 => by have h3 := HGC.out k h1; have h4 := HGO.out k h2; omega)
  have HGV := Lib.hid (show ∀ k, gc.own k → k < V.heap.size from fun k hk => by have h1 := HGC.out k hk; have h2 := HVS.out; omega)
  have na1 : a7 ≠ V.heap.size := by have h1 := HVS.out; omega
  have nq1 : q4 ≠ V.heap.size := by have h1 := HXV.out.lt; have h2 := HQ46.out; omega
  have HSB := Lib.hid (fun (w' : World) (hb : Below V.heap.size V w') => HSS.out w' (fun k hk _ => hb.block k hk))
  have HN7 := Lib.hid (fun (w' : World) (_ : Below V.heap.size V w') => HNK.out w')
  have HRU := Lib.hid (fun (w' : World) (b1 : Nat) (k1 : Option Nat) (lo' : Nat) (hb : Below V.heap.size V w') (hs : StackAt w' lo' b1 k1 []) (hl : V.heap.size ≤ lo') => by
    have h1 := run_any (BothAt.mk (HBV.out.later hb) hs (fun k h1 h2 => by have h3 := HGO.out k h1; have h4 := hs.ownLo h2; have h5 := HVS.out; omega)) HLN.out (by decide) b
    rw [HQ.out] at h1
    exact h1)
  clear hbc hb3 hb23 hbV hV hV7 hV8 ha7 ha8 HB2 HX2 HLO HBD HCP
  go_cut [9] from 29 to 34 (fun s9 wx => ∃ (p : Nat) (g5 : GhostB) (v1 v2 : Value), s9 = .pointer (some ⟨p, 0, none⟩) ∧ Hid (FewX V wx lo (w2.heap.size + 1) g g5 gc B q p v1 v2) ∧ Hid (V.heap.size ≤ p))
  case first =>
    go_region_held3 (fun w' => w'.cell? ⟨a7, 0, none⟩ = some (.pointer (some ⟨q, 0, none⟩)) ∧ w'.cell? ⟨q4, 1, none⟩ = some (.int .i64 b))
      (first | assumption | exact HSB.out _ (by assumption) | exact HSB.out _ (Below.refl _ _).drew | exact HSB.out _ (below_new _ _).drew | exact keepA2 (by assumption) | exact keepS2 (by assumption) (by assumption) (by assumption))
      (first | (go_at_call 25; refine calls_at HR7.out (by with_reducible exact (below_new _ _)) ?_; rintro e w5 hB6 ⟨v1, v2, g5, k5, rfl, hbo5, hq5, ht5, hd5, hx5⟩; obtain ⟨xa1, xc1, rfl⟩ := own_form1 hd5.row; obtain ⟨xa2, xc2, rfl⟩ := own_form1 hx5.row; have HF5 := Lib.hid (few_pre (stepB hB5 hB6) HCV.out HGG.out HO1.out hbo5 (hq5.trans HQ.out) ht5 hd5.row); have HV5 := Lib.hid (show V.heap.size ≤ w5.heap.size from Nat.le_trans (stepB hB5 hB6).size ht5.size); have hS5 := HSS.out w5 (fun k hk hn => (ht5.block k (Nat.lt_of_lt_of_le hk (Nat.le_trans HZ4.out hB6.size)) (fun e => by rcases e with e | e; exact hn e; have := HO1.out k e; omega)).trans ((stepB hB5 hB6).block k hk)); have HB6 := Lib.hid hB6; have na3 : a7 ≠ w5.heap.size := (by have h1 := HVS.out; have h2 := HZ4.out; have h3 := hB6.size; have h4 := ht5.size; omega); have nq3 : q4 ≠ w5.heap.size := (by have h1 := HVS.out; have h2 := HZ4.out; have h3 := hB6.size; have h4 := ht5.size; have h5 := HXV.out.lt; have h6 := HQ46.out; omega); have HPV := Lib.hid hB5.size; have HNP := Lib.hid (show ¬g5.own w4.heap.size from fun e => by rcases ht5.own _ (by simp) (.inl e) with h | h; (have h1 := HGO.out _ h; have h2 := HVS.out; have h3 := HZ4.out; omega); (have h1 := HK2.out _ h; omega)); have HZ5 : Hid (w5.heap[w4.heap.size]? = some (.cells #[.slice none 0 0, .slice none 0 0, .int .i64 0] 54 (0, 0))) := Lib.hid ((ht5.block _ (by simp) (fun e => by rcases e with e | e; have h1 := HGO.out _ e; have h2 := HVS.out; have h3 := HZ4.out; omega; have h1 := HK2.out _ e; omega)).trans (heap_alloc_new w4 (.cells #[.slice none 0 0, .slice none 0 0, .int .i64 0] 54))); have hl5 := (Array.getElem?_eq_some_iff.1 HZ5.out).1; obtain ⟨z0, z1, z2⟩ := row_c0 HZ5.out; have zf0 := row_f 0 HZ5.out; have zf1 := row_f 1 HZ5.out; have zf2 := row_f 2 HZ5.out;  clear hbo5 hq5 ht5 hd5 hx5) | (go_at_call 25; refine calls_at HR7.out (by with_reducible exact (Below.refl _ _)) ?_; rintro e w5 hB6 ⟨v1, v2, g5, k5, rfl, hbo5, hq5, ht5, hd5, hx5⟩; obtain ⟨xa1, xc1, rfl⟩ := own_form1 hd5.row; obtain ⟨xa2, xc2, rfl⟩ := own_form1 hx5.row; have HF5 := Lib.hid (few_pre (stepB hB5 hB6) HCV.out HGG.out HO1.out hbo5 (hq5.trans HQ.out) ht5 hd5.row); have HV5 := Lib.hid (show V.heap.size ≤ w5.heap.size from Nat.le_trans (stepB hB5 hB6).size ht5.size); have hS5 := HSS.out w5 (fun k hk hn => (ht5.block k (Nat.lt_of_lt_of_le hk (Nat.le_trans HZ4.out hB6.size)) (fun e => by rcases e with e | e; exact hn e; have := HO1.out k e; omega)).trans ((stepB hB5 hB6).block k hk)); have HB6 := Lib.hid hB6; have na3 : a7 ≠ w5.heap.size := (by have h1 := HVS.out; have h2 := HZ4.out; have h3 := hB6.size; have h4 := ht5.size; omega); have nq3 : q4 ≠ w5.heap.size := (by have h1 := HVS.out; have h2 := HZ4.out; have h3 := hB6.size; have h4 := ht5.size; have h5 := HXV.out.lt; have h6 := HQ46.out; omega); have HPV := Lib.hid (Nat.le_refl V.heap.size); have HNP := Lib.hid (show ¬g5.own V.heap.size from fun e => by rcases ht5.own _ (Nat.lt_of_lt_of_le (Array.getElem?_eq_some_iff.1 HZ1.out).1 hB6.size) (.inl e) with h | h; (have h1 := HGO.out _ h; have h2 := HVS.out; omega); exact HNV.out h); have HZ5 : Hid (w5.heap[V.heap.size]? = some (.cells #[.slice none 0 0, .slice none 0 0, .int .i64 0] 54 (0, 0))) := Lib.hid ((ht5.block _ (Nat.lt_of_lt_of_le (Array.getElem?_eq_some_iff.1 HZ1.out).1 hB6.size) (fun e => by rcases e with e | e; have h1 := HGO.out _ e; have h2 := HVS.out; omega; exact HNV.out e)).trans ((hB6.block _ (Array.getElem?_eq_some_iff.1 HZ1.out).1).trans HZ1.out)); have hl5 := (Array.getElem?_eq_some_iff.1 HZ5.out).1; obtain ⟨z0, z1, z2⟩ := row_c0 HZ5.out; have zf0 := row_f 0 HZ5.out; have zf1 := row_f 1 HZ5.out; have zf2 := row_f 2 HZ5.out;  clear hbo5 hq5 ht5 hd5 hx5) | (go_at_call 25; refine calls_at HR7.out (by with_reducible exact (Below.refl _ _)) ?_; rintro e w5 hB6 ⟨v1, v2, g5, k5, rfl, hbo5, hq5, ht5, hd5, hx5⟩; obtain ⟨xa1, xc1, rfl⟩ := own_form1 hd5.row; obtain ⟨xa2, xc2, rfl⟩ := own_form1 hx5.row; have HF5 := Lib.hid (few_pre (stepB hB5 hB6) HCV.out HGG.out HO1.out hbo5 (hq5.trans HQ.out) ht5 hd5.row); have HV5 := Lib.hid (show V.heap.size ≤ w5.heap.size from Nat.le_trans (stepB hB5 hB6).size ht5.size); have hS5 := HSS.out w5 (fun k hk hn => (ht5.block k (Nat.lt_of_lt_of_le hk (Nat.le_trans HZ4.out hB6.size)) (fun e => by rcases e with e | e; exact hn e; have := HO1.out k e; omega)).trans ((stepB hB5 hB6).block k hk)); have HB6 := Lib.hid hB6; have na3 : a7 ≠ w5.heap.size := (by have h1 := HVS.out; have h2 := HZ4.out; have h3 := hB6.size; have h4 := ht5.size; omega); have nq3 : q4 ≠ w5.heap.size := (by have h1 := HVS.out; have h2 := HZ4.out; have h3 := hB6.size; have h4 := ht5.size; have h5 := HXV.out.lt; have h6 := HQ46.out; omega);  clear hbo5 hq5 ht5 hd5 hx5) | (go_at_call 8; refine calls_at HN7.out (by with_reducible exact (below_new _ _).drew) ?_; rintro e w4 hB4 ⟨b1, k1, rfl, hs1, hb4⟩; rw [show List.take 8 ([] : List EntL) = [] from rfl] at hs1; have hB5 : Below V.heap.size V w4 := stepB hB4 hb4; have HZ1 : Hid (w4.heap[V.heap.size]? = some (.cells #[.slice none 0 0, .slice none 0 0, .int .i64 0] 54 (0, 0))) := Lib.hid ((hb4.block _ (by show V.heap.size < (V.alloc (.cells #[.slice none 0 0, .slice none 0 0, .int .i64 0] 54)).heap.size; simp)).trans (heap_alloc_new V (.cells #[.slice none 0 0, .slice none 0 0, .int .i64 0] 54))); have HNV := Lib.hid (show ¬ownK b1 k1 V.heap.size from fun e => by have h1 := hs1.ownLo e; have h2 : (World.drew (V.alloc (.cells #[.slice none 0 0, .slice none 0 0, .int .i64 0] 54))).heap.size = V.heap.size + 1 := World.size_alloc V (.cells #[.slice none 0 0, .slice none 0 0, .int .i64 0] 54); omega);  have HR7 := Lib.hid (fun (w' : World) (hb : Below w4.heap.size w4 w') => HRU.out w' b1 k1 _ (stepB hB5 hb) (hs1.later hb) (Nat.le_trans hB4.size (Nat.le_refl _))); have HO1 := Lib.hid (show ∀ k, ownK b1 k1 k → V.heap.size ≤ k from fun k hk => Nat.le_trans hB4.size (hs1.ownLo hk)); have HZ4 := Lib.hid hB5.size; have na2 : a7 ≠ w4.heap.size := (by have h1 := HVS.out; have h2 := hB5.size; omega); have nq2 : q4 ≠ w4.heap.size := (by have h1 := hB5.size; have h5 := HXV.out.lt; have h6 := HQ46.out; omega); have HK2 := Lib.hid (show ∀ k, ownK b1 k1 k → V.heap.size ≤ k ∧ k < w4.heap.size from fun k hk => ⟨Nat.le_trans hB4.size (hs1.ownLo hk), hs1.ownLt hk⟩); clear hs1 hb4) | (go_at_call 8; refine calls_at HN7.out (by with_reducible exact (Below.refl _ _).drew) ?_; rintro e w4 hB4 ⟨b1, k1, rfl, hs1, hb4⟩; rw [show List.take 8 ([] : List EntL) = [] from rfl] at hs1; have hB5 : Below V.heap.size V w4 := stepB hB4 hb4;  have HR7 := Lib.hid (fun (w' : World) (hb : Below w4.heap.size w4 w') => HRU.out w' b1 k1 _ (stepB hB5 hb) (hs1.later hb) (Nat.le_trans hB4.size (Nat.le_refl _))); have HO1 := Lib.hid (show ∀ k, ownK b1 k1 k → V.heap.size ≤ k from fun k hk => Nat.le_trans hB4.size (hs1.ownLo hk)); have HZ4 := Lib.hid hB5.size; have na2 : a7 ≠ w4.heap.size := (by have h1 := HVS.out; have h2 := hB5.size; omega); have nq2 : q4 ≠ w4.heap.size := (by have h1 := hB5.size; have h5 := HXV.out.lt; have h6 := HQ46.out; omega); have HK2 := Lib.hid (show ∀ k, ownK b1 k1 k → V.heap.size ≤ k ∧ k < w4.heap.size from fun k hk => ⟨Nat.le_trans hB4.size (hs1.ownLo hk), hs1.ownLt hk⟩); clear hs1 hb4) | (fail "no arm"))
    all_goals (
      go_wp2
      go_meet
      first
        | exact ⟨_, _, _, _, rfl, Lib.hid (few_leaf rfl HZ5.out HPV.out HNP.out HF5.out HGV.out), HPV⟩
        | exact ⟨_, _, _, _, rfl, Lib.hid (few_leaf5 HF5.out), HV5⟩)
  case rest =>
    obtain ⟨p, g5, v1, v2, rfl, HFX, HPV⟩ := hcut
    obtain ⟨wx, rfl⟩ : ∃ wx, wx = wc := ⟨_, rfl⟩
    obtain ⟨xa1, xc1, hv1⟩ := HFX.out.dead.form
    subst hv1
    have hr := HFX.out.row
    have r0 : wx.cell? ⟨p, 0, none⟩ = some (.slice xa1 (runD B).length xc1) := cell_of_row wx p 0 _ _ (0, 0) hr
    have r2 : wx.cell? ⟨p, 2, none⟩ = some (.int .i64 (runN B : Int)) := cell_of_row wx p 2 _ _ (0, 0) hr
    have hn1 : runN B ≤ 1 := by unfold runN; split <;> omega
    have hn3 : decide ((3 : Int) < (runN B : Int)) = false := decide_eq_false (by omega)
    have HR0 := Lib.hid r0
    have hkv : ∀ k, k < V.heap.size → ¬g.own k → wx.heap[k]? = V.heap[k]? := HFX.out.be.block
    have HXX := Lib.hid (HXV.out.of (hkv q6 HXV.out.lt (fun e => by have := HGO.out _ e; omega)))
    have c8 := (World.cell?_of_block (hkv a8 HVS.out.2 (fun e => by have h1 := HGO.out _ e; have h2 := HVS.out; omega))).trans HV8.out
    have c7 := (World.cell?_of_block (hkv a7 (Nat.lt_trans HVS.out.1 HVS.out.2) (fun e => by have h1 := HGO.out _ e; omega))).trans HV7.out
    have HC8 := Lib.hid c8
    have HC7 := Lib.hid c7
    have HWX := Lib.hid (HFX.out.be.below HVW.out (fun k hk => by have h1 := HGO.out k hk; have h2 := HQ6.out; omega))
    have hcx := HFX.out.cp
    have hbx := HFX.out.bd
    obtain ⟨k0, -⟩ := hcx.cells
    obtain ⟨j0, -⟩ := hbx.cells
    rw [HQC.out] at k0
    rw [HFX.out.hq] at j0
    have HK0 := Lib.hid k0
    have HJ0 := Lib.hid j0
    have HDL := Lib.hid (show (runD B).length ≤ 1000 from by
      rw [runD_dies]
      exact Nat.le_trans (dies_len HBV.out.wf HBV.out.st.n1) (Nat.le_trans HLN.out (by decide)))
    have HGT := Lib.hid (fun (w' : World) (i : Int) (hb : Below wx.heap.size wx w') => getI_any (hbx.later hb) i)
    have HHS := Lib.hid (fun (w' : World) (i : Int) (hb : Below wx.heap.size wx w') => by have h1 := hasRef_any i (HFX.out.dead.later hb) HDL.out; rw [few_died HBV.out i] at h1; exact h1)
    have HDD := Lib.hid (fun (w' : World) (i : Int) (hb : Below wx.heap.size wx w') => dead_any (hcx.later hb).st hcx.wf (Nat.le_succ_of_le hcx.len) i)
    have HFA := Lib.hid (field_any (some ⟨gc.b, 0, none⟩) (none_ints wx) (by decide))
    have HCX := Lib.hid hcx
    clear hr hkv hcx hbx r0
    go_wp2_with fail
    refine HFA.out.mono ?_
    rintro e wr ⟨rfl, hf1, ⟨u9, hf2, hu9⟩, hbr⟩
    have HBR := Lib.hid hbr
    have hcr := HCX.out.later hbr
    have HSEQ := Lib.hid (field_seq 8 (by omega) (w := wr) (fun _ => False) (fun _ => False) (fun k hk => hk.elim) hf1 hf2 hcr.st hcr.wf (Nat.le_succ_of_le hcr.len) hu9 (by decide) (fun c hc => hc.elim))
    clear hf1 hf2 hu9 hbr hcr HFA r2 c7 c8 k0 j0
    dsimp only
    go_wp2_with fail
    refine (wpIn_wide (n := 9)).1 ?_
    refine range_world3 rfl (by omega) (I := fun _ W' => Below wr.heap.size wr W') (Ix := fun _ _ _ => False) (gf := 65) (lb := _) rfl trivial (fun _ _ => by kernel_rfl) HSEQ.out KpP.trans (fun W' o o' ho hc _ => KpP.put o' (.inr rfl) ho hc) (fun W W' hb => KpP.of_below _ _ hb) (Below.refl _ _) (fun _ => rfl)
      below_ownI (fun c s A B row hs hg hr => hs) (fun s A B row hs hg hr => hs) (fun s A B row hs hg hr => hs) (Below.refl _ _) ?round ?done ?stop
    case stop =>
      rintro D c pre W hD hS hI hK
      exact hI.elim
    case round =>
      rintro pre x9 Wr K hI hT hsz hK
      have hx9 : x9 ∈ fieldL B.S [] := (show pre ++ [x9] <+: fieldL B.S [] from hT).subset (by simp)
      have hfo := few_obj HBV.out hx9
      obtain ⟨z, hz⟩ : ∃ z, deadS B.S x9.id = z := ⟨_, rfl⟩
      obtain ⟨y, hy⟩ : ∃ y, objI (runB B).S x9.id = y := ⟨_, rfl⟩
      obtain ⟨er, her⟩ : ∃ er, errI (runB B).S x9.id = er := ⟨_, rfl⟩
      rw [hz, hy] at hfo
      have HGX := Lib.hid (fun (w' : World) (hb : Below wx.heap.size wx w') => by have h1 := HGT.out w' x9.id hb; rw [hy, her] at h1; exact h1)
      have HHX := Lib.hid (fun (w' : World) (hb : Below wx.heap.size wx w') => by have h1 := HHS.out w' x9.id hb; rw [hz] at h1; exact h1)
      have HDX := Lib.hid (fun (w' : World) (hb : Below wx.heap.size wx w') => by have h1 := HDD.out w' x9.id hb; rw [hz] at h1; exact h1)
      obtain ⟨b5, hb5⟩ : ∃ b5, g5.b = b5 := ⟨_, rfl⟩
      obtain ⟨bc, hbc⟩ : ∃ bc, gc.b = bc := ⟨_, rfl⟩
      rw [hb5] at HGX
      rw [hbc] at HDX
      obtain ⟨x0, x1, x2, x3, x4, x5, x6, x7, x8, xx9, x10⟩ := x9
      obtain ⟨y0', y1', y2', y3', y4', y5', y6', y7', y8', y9', y10'⟩ := y
      have HFO := Lib.hid hfo
      unfold RetGet oagg at HGX
      dsimp only at HGX HHX HDX HFO
      have HK := Lib.hid hK
      have HSZ := Lib.hid hsz
      clear hK hT hI hsz hfo hz hy her hx9 HGT HHS HDD
      simp only [encO, ocs]
      simp
      gi_wp2
      refine HK.out _ _ (below_new Wr _) ?_
      clear HK
      intro Wb hsz2 hrest hkw hb
      have HBB := Lib.hid (stepB HBR.out hb)
      have HBI := Lib.hid hb
      have HKW := Lib.hid hkw
      have hbx := (hrest Wr.heap.size (by have := HSZ.out; omega)).trans (heap_alloc_new Wr _)
      obtain ⟨bx, hbx9⟩ : ∃ bx, Wr.heap.size = bx := ⟨_, rfl⟩
      rw [hbx9] at hbx ⊢
      have HROW := Lib.hid hbx
      have o0 := cell_of_row Wb bx 0 _ _ (0, 0) hbx
      have c7 := cell_stays HBB.out HC7.out
      have j0 := cell_stays HBB.out HJ0.out
      rw [hb5] at j0
      have HS12 := Lib.hid (show ∀ w', Below Wb.heap.size Wb w' → (w'.cell? ⟨a7, 0, none⟩ = some (.pointer (some ⟨q, 0, none⟩)) ∧ w'.cell? ⟨q, 0, none⟩ = some (.pointer (some ⟨b5, 0, none⟩)) ∧ w'.cell? ⟨bx, 0, none⟩ = some (.int .i64 x0)) from fun w' h => ⟨cell_stays h c7, cell_stays h j0, cell_stays h o0⟩)
      clear hb hkw hrest hsz2 hbx hbx9 c7 j0 o0
      gi_wp2
      refine wpIn_region_any (by kernel_rfl) ?_
      change wpAnyIn _ _ _ _ _ _ _ _ _ (World.drew Wb)
      refine anyS.any (S := (fun w' => w'.cell? ⟨a7, 0, none⟩ = some (.pointer (some ⟨q, 0, none⟩)) ∧ w'.cell? ⟨q, 0, none⟩ = some (.pointer (some ⟨b5, 0, none⟩)) ∧ w'.cell? ⟨bx, 0, none⟩ = some (.int .i64 x0))) ?_
      refine anyS_take (i := 0) (v := ?_) (by kernel_rfl) rfl (by kernel_rfl) (by kernel_rfl) (by kernel_rfl) (fun _ _ _ h => h) (by kernel_rfl) (fun _ => by kernel_rfl) ?_ ?_
      rotate_left
      · intro w' hS
        obtain ⟨s0, s1, s2⟩ := hS
        go_simp
        try with_reducible rfl
      refine anyS_take (i := 1) (v := ?_) (by kernel_rfl) rfl (by kernel_rfl) (by kernel_rfl) (by kernel_rfl) (fun _ _ _ h => h) (by kernel_rfl) (fun _ => by kernel_rfl) ?_ ?_
      rotate_left
      · intro w' hS
        obtain ⟨s0, s1, s2⟩ := hS
        go_simp
        try with_reducible rfl
      refine anyS_take (i := 2) (v := ?_) (by kernel_rfl) rfl (by kernel_rfl) (by kernel_rfl) (by kernel_rfl) (fun _ _ _ h => h) (by kernel_rfl) (fun _ => by kernel_rfl) ?_ ?_
      rotate_left
      · intro w' hS
        obtain ⟨s0, s1, s2⟩ := hS
        go_simp
        try with_reducible rfl
      refine anyS_take (i := 3) (v := ?_) (by kernel_rfl) rfl (by kernel_rfl) (by kernel_rfl) (by kernel_rfl) (fun _ _ _ h => h) (by kernel_rfl) (fun _ => by kernel_rfl) ?_ ?_
      rotate_left
      · intro w' hS
        obtain ⟨s0, s1, s2⟩ := hS
        go_simp
        try with_reducible rfl
      refine anyS_take (i := 4) (v := ?_) (by kernel_rfl) rfl (by kernel_rfl) (by kernel_rfl) (by kernel_rfl) (fun _ _ _ h => h) (by kernel_rfl) (fun _ => by kernel_rfl) ?_ ?_
      rotate_left
      · intro w' hS
        obtain ⟨s0, s1, s2⟩ := hS
        go_simp
        try with_reducible rfl
      refine anyS_take (i := 5) (v := ?_) (by kernel_rfl) rfl (by kernel_rfl) (by kernel_rfl) (by kernel_rfl) (fun _ _ _ h => h) (by kernel_rfl) (fun _ => by kernel_rfl) ?_ ?_
      rotate_left
      · intro w' hS
        obtain ⟨s0, s1, s2⟩ := hS
        go_simp
        try with_reducible rfl
      refine anyS_two (i := 6) (j := 10) (by kernel_rfl) rfl rfl (HS12.out _ (Below.refl _ _).drew) (by kernel_rfl) (by kernel_rfl) (fun K hK => ?_) (fun K hK => ?_)
      · go_simp
        gi_wp2_with ((refine ⟨trivial, ?_⟩; gi_at_call 10; refine CallsIn.mono (F := Fence.wide) (callsIn_wide.2 (HGX.out _ (stepB HBB.out (Below.refl Wb.heap.size Wb).drew))) ?_; rintro e w6 ⟨rfl, hb6⟩; have HB6 := Lib.hid (stepB (Below.refl Wb.heap.size Wb).drew hb6); clear hb6; dsimp only))
        refine anyS_take (i := 7) (v := ?_) (by kernel_rfl) rfl (by kernel_rfl) (by kernel_rfl) (by kernel_rfl) (fun _ _ _ h => h) (by kernel_rfl) (fun _ => by kernel_rfl) ?_ ?_
        rotate_left
        · intro w' hS
          obtain ⟨s0, s1, s2⟩ := hS
          go_simp
          try with_reducible rfl
        refine anyS_take (i := 8) (v := ?_) (by kernel_rfl) rfl (by kernel_rfl) (by kernel_rfl) (by kernel_rfl) (fun _ _ _ h => h) (by kernel_rfl) (fun _ => by kernel_rfl) ?_ ?_
        rotate_left
        · intro w' hS
          obtain ⟨s0, s1, s2⟩ := hS
          go_simp
          try with_reducible rfl
        refine anyS_take (i := 9) (v := ?_) (by kernel_rfl) rfl (by kernel_rfl) (by kernel_rfl) (by kernel_rfl) (fun _ _ _ h => h) (by kernel_rfl) (fun _ => by kernel_rfl) ?_ ?_
        rotate_left
        · intro w' hS
          obtain ⟨s0, s1, s2⟩ := hS
          go_simp
          try with_reducible rfl
        refine anyS_one (i := 10) (by kernel_rfl) rfl (HS12.out _ HB6.out) (fun K hK => ?_)
        go_simp
        refine hK _ _ ?_
        clear hK K
        refine anyS_one (i := 11) (by kernel_rfl) rfl (HS12.out _ (stepB HB6.out (below_new w6 _))) (fun K hK => ?_)
        go_simp
        refine hK _ _ ?_
        clear hK K
        first | (refine anyS_one (i := 12) (by kernel_rfl) rfl (HS12.out _ (stepB HB6.out (below_new w6 _))) (fun K hK => ?_); go_simp; refine hK _ _ ?_; clear hK K) | skip
        refine anyS_done (by kernel_rfl) (HS12.out _ (stepB HB6.out (below_new w6 _))) ?_ _
        have HXB0 := Lib.hid (stepB HB6.out (below_new w6 (.cells #[.int .i64 y0', .int .i64 y1', .int .i64 y2', .int .i64 y3', .bool y4', .bool y5', .int .i64 y6', .int .i64 y7', .int .i64 y8', .int .i64 y9', .bool y10'] 39)))
        have HYR0 := Lib.hid (heap_alloc_new w6 (.cells #[.int .i64 y0', .int .i64 y1', .int .i64 y2', .int .i64 y3', .bool y4', .bool y5', .int .i64 y6', .int .i64 y7', .int .i64 y8', .int .i64 y9', .bool y10'] 39))
        obtain ⟨X, hX⟩ : ∃ X, w6.alloc (.cells #[.int .i64 y0', .int .i64 y1', .int .i64 y2', .int .i64 y3', .bool y4', .bool y5', .int .i64 y6', .int .i64 y7', .int .i64 y8', .int .i64 y9', .bool y10'] 39) = X := ⟨_, rfl⟩
        obtain ⟨b11, hb11⟩ : ∃ b11, w6.heap.size = b11 := ⟨_, rfl⟩
        rw [hX] at HXB0 HYR0 ⊢
        rw [hb11] at HYR0 ⊢
        have HXB := HXB0
        have HYR := HYR0
        clear HXB0 HYR0 hX hb11 HB6
        have HXR := Lib.hid ((HXB.out.block bx (Array.getElem?_eq_some_iff.1 HROW.out).1).trans HROW.out)
        have r0 := cell_stays (stepB HBB.out HXB.out) HR0.out
        have o0 := cell_of_row X bx 0 _ _ (0, 0) HXR.out
        have HKC := Lib.hid (show X.cell? ⟨qc, 0, none⟩ = some (.pointer (some ⟨bc, 0, none⟩)) from by have h1 := cell_stays (stepB HBB.out HXB.out) HK0.out; rw [hbc] at h1; exact h1)
        gi_wp2_with fail
        refine ⟨trivial, (callsIn_wide.2 (HHX.out X (stepB HBB.out HXB.out))).mono ?_⟩
        rintro e w7 ⟨rfl, e7⟩
        rw [e7]
        clear e7 w7 r0 o0
        dsimp only
        cases z with
        | true =>
          have e5 : (y3' == 5) = true := by have h := HFO.out.2.2 rfl; rw [h]; rfl
          clear HFO
          have c14_0 : X.cell? ⟨b11, 3, none⟩ = some (.int .i64 y3') := cell_of_row X b11 3 _ _ (0, 0) HYR.out
          have c14_1 : X.cell? ⟨bx, 0, none⟩ = some (.int .i64 x0) := cell_of_row X bx 0 _ _ (0, 0) HXR.out
          have c14_2 : X.cell? ⟨a8, 0, none⟩ = some (.pointer (some ⟨qc, 0, none⟩)) := cell_stays (stepB HBB.out HXB.out) HC8.out
          have c14_3 : X.cell? ⟨qc, 0, none⟩ = some (.pointer (some ⟨bc, 0, none⟩)) := HKC.out
          have HS14 := Lib.hid (show ∀ w', Below X.heap.size X w' → (w'.cell? ⟨b11, 3, none⟩ = some (.int .i64 y3') ∧ w'.cell? ⟨bx, 0, none⟩ = some (.int .i64 x0) ∧ w'.cell? ⟨a8, 0, none⟩ = some (.pointer (some ⟨qc, 0, none⟩)) ∧ w'.cell? ⟨qc, 0, none⟩ = some (.pointer (some ⟨bc, 0, none⟩))) from fun w' h => ⟨cell_stays h c14_0, cell_stays h c14_1, cell_stays h c14_2, cell_stays h c14_3⟩)
          clear c14_0 c14_1 c14_2 c14_3
          gi_wp2
          refine wpIn_region_any (by kernel_rfl) ?_
          change wpAnyIn _ _ _ _ _ _ _ _ _ (World.drew X)
          refine anyS.any (S := (fun w' => w'.cell? ⟨b11, 3, none⟩ = some (.int .i64 y3') ∧ w'.cell? ⟨bx, 0, none⟩ = some (.int .i64 x0) ∧ w'.cell? ⟨a8, 0, none⟩ = some (.pointer (some ⟨qc, 0, none⟩)) ∧ w'.cell? ⟨qc, 0, none⟩ = some (.pointer (some ⟨bc, 0, none⟩)))) ?_
          refine anyS_take (i := 0) (v := ?_) (by kernel_rfl) rfl (by kernel_rfl) (by kernel_rfl) (by kernel_rfl) (fun _ _ _ h => h) (by kernel_rfl) (fun _ => by kernel_rfl) ?_ ?_
          rotate_left
          · intro w' hS
            obtain ⟨s0, s1, s2, s3⟩ := hS
            go_simp
            try with_reducible rfl
          refine anyS_take (i := 1) (v := ?_) (by kernel_rfl) rfl (by kernel_rfl) (by kernel_rfl) (by kernel_rfl) (fun _ _ _ h => h) (by kernel_rfl) (fun _ => by kernel_rfl) ?_ ?_
          rotate_left
          · intro w' hS
            obtain ⟨s0, s1, s2, s3⟩ := hS
            go_simp
            try with_reducible rfl
          refine anyS_take (i := 2) (v := ?_) (by kernel_rfl) rfl (by kernel_rfl) (by kernel_rfl) (by kernel_rfl) (fun _ _ _ h => h) (by kernel_rfl) (fun _ => by kernel_rfl) ?_ ?_
          rotate_left
          · intro w' hS
            obtain ⟨s0, s1, s2, s3⟩ := hS
            go_simp
            try with_reducible rfl
          refine anyS_one (i := 3) (by kernel_rfl) rfl (HS14.out _ (Below.refl X.heap.size X).drew) (fun K hK => ?_)
          go_simp
          refine hK _ _ ?_
          clear hK K
          refine anyS_one (i := 4) (by kernel_rfl) rfl (HS14.out _ (Below.refl X.heap.size X).drew) (fun K hK => ?_)
          go_simp
          refine hK _ _ ?_
          clear hK K
          refine anyS_take (i := 5) (v := ?_) (by kernel_rfl) rfl (by kernel_rfl) (by kernel_rfl) (by kernel_rfl) (fun _ _ _ h => h) (by kernel_rfl) (fun _ => by kernel_rfl) ?_ ?_
          rotate_left
          · intro w' hS
            obtain ⟨s0, s1, s2, s3⟩ := hS
            go_simp
            try with_reducible rfl
          refine anyS_take (i := 6) (v := ?_) (by kernel_rfl) rfl (by kernel_rfl) (by kernel_rfl) (by kernel_rfl) (fun _ _ _ h => h) (by kernel_rfl) (fun _ => by kernel_rfl) ?_ ?_
          rotate_left
          · intro w' hS
            obtain ⟨s0, s1, s2, s3⟩ := hS
            go_simp
            try with_reducible rfl
          refine anyS_one (i := 7) (by kernel_rfl) rfl (HS14.out _ (Below.refl X.heap.size X).drew) (fun K hK => ?_)
          go_simp
          refine hK _ _ ?_
          clear hK K
          refine anyS_take (i := 8) (v := ?_) (by kernel_rfl) rfl (by kernel_rfl) (by kernel_rfl) (by kernel_rfl) (fun _ _ _ h => h) (by kernel_rfl) (fun _ => by kernel_rfl) ?_ ?_
          rotate_left
          · intro w' hS
            obtain ⟨s0, s1, s2, s3⟩ := hS
            go_simp
            try with_reducible rfl
          refine anyS_skip (i := 9) (by kernel_rfl) rfl (by kernel_rfl) (by kernel_rfl) (by kernel_rfl) (fun _ _ _ h => h) (by kernel_rfl) (fun _ => by kernel_rfl) ?_
          refine anyS_skip (i := 10) (by kernel_rfl) rfl (by kernel_rfl) (by kernel_rfl) (by kernel_rfl) (fun _ _ _ h => h) (by kernel_rfl) (fun _ => by kernel_rfl) ?_
          refine anyS_skip (i := 11) (by kernel_rfl) rfl (by kernel_rfl) (by kernel_rfl) (by kernel_rfl) (fun _ _ _ h => h) (by kernel_rfl) (fun _ => by kernel_rfl) ?_
          refine anyS_take (i := 12) (v := ?_) (by kernel_rfl) rfl (by kernel_rfl) (by kernel_rfl) (by kernel_rfl) (fun _ _ _ h => h) (by kernel_rfl) (fun _ => by kernel_rfl) ?_ ?_
          rotate_left
          · intro w' hS
            obtain ⟨s0, s1, s2, s3⟩ := hS
            go_simp
            try with_reducible rfl
          refine anyS_take (i := 13) (v := ?_) (by kernel_rfl) rfl (by kernel_rfl) (by kernel_rfl) (by kernel_rfl) (fun _ _ _ h => h) (by kernel_rfl) (fun _ => by kernel_rfl) ?_ ?_
          rotate_left
          · intro w' hS
            obtain ⟨s0, s1, s2, s3⟩ := hS
            go_simp
            try with_reducible rfl
          refine anyS_take (i := 14) (v := ?_) (by kernel_rfl) rfl (by kernel_rfl) (by kernel_rfl) (by kernel_rfl) (fun _ _ _ h => h) (by kernel_rfl) (fun _ => by kernel_rfl) ?_ ?_
          rotate_left
          · intro w' hS
            obtain ⟨s0, s1, s2, s3⟩ := hS
            go_simp
            try with_reducible rfl
          refine anyS_take (i := 15) (v := ?_) (by kernel_rfl) rfl (by kernel_rfl) (by kernel_rfl) (by kernel_rfl) (fun _ _ _ h => h) (by kernel_rfl) (fun _ => by kernel_rfl) ?_ ?_
          rotate_left
          · intro w' hS
            obtain ⟨s0, s1, s2, s3⟩ := hS
            go_simp
            try with_reducible rfl
          refine anyS_take (i := 16) (v := ?_) (by kernel_rfl) rfl (by kernel_rfl) (by kernel_rfl) (by kernel_rfl) (fun _ _ _ h => h) (by kernel_rfl) (fun _ => by kernel_rfl) ?_ ?_
          rotate_left
          · intro w' hS
            obtain ⟨s0, s1, s2, s3⟩ := hS
            go_simp
            try with_reducible rfl
          refine anyS_take (i := 17) (v := ?_) (by kernel_rfl) rfl (by kernel_rfl) (by kernel_rfl) (by kernel_rfl) (fun _ _ _ h => h) (by kernel_rfl) (fun _ => by kernel_rfl) ?_ ?_
          rotate_left
          · intro w' hS
            obtain ⟨s0, s1, s2, s3⟩ := hS
            go_simp
            try with_reducible rfl
          refine anyS_take (i := 18) (v := ?_) (by kernel_rfl) rfl (by kernel_rfl) (by kernel_rfl) (by kernel_rfl) (fun _ _ _ h => h) (by kernel_rfl) (fun _ => by kernel_rfl) ?_ ?_
          rotate_left
          · intro w' hS
            obtain ⟨s0, s1, s2, s3⟩ := hS
            go_simp
            try with_reducible rfl
          refine anyS_take (i := 19) (v := ?_) (by kernel_rfl) rfl (by kernel_rfl) (by kernel_rfl) (by kernel_rfl) (fun _ _ _ h => h) (by kernel_rfl) (fun _ => by kernel_rfl) ?_ ?_
          rotate_left
          · intro w' hS
            obtain ⟨s0, s1, s2, s3⟩ := hS
            go_simp
            try with_reducible rfl
          refine anyS_take (i := 20) (v := ?_) (by kernel_rfl) rfl (by kernel_rfl) (by kernel_rfl) (by kernel_rfl) (fun _ _ _ h => h) (by kernel_rfl) (fun _ => by kernel_rfl) ?_ ?_
          rotate_left
          · intro w' hS
            obtain ⟨s0, s1, s2, s3⟩ := hS
            go_simp
            try with_reducible rfl
          refine anyS_take (i := 21) (v := ?_) (by kernel_rfl) rfl (by kernel_rfl) (by kernel_rfl) (by kernel_rfl) (fun _ _ _ h => h) (by kernel_rfl) (fun _ => by kernel_rfl) ?_ ?_
          rotate_left
          · intro w' hS
            obtain ⟨s0, s1, s2, s3⟩ := hS
            go_simp
            try with_reducible rfl
          refine anyS_one (i := 22) (by kernel_rfl) rfl (HS14.out _ (Below.refl X.heap.size X).drew) (fun K hK => ?_)
          go_simp
          gi_wp2_with ((refine ⟨trivial, ?_⟩; gi_at_call 32; refine CallsIn.mono (F := Fence.wide) (callsIn_wide.2 (HDX.out _ (stepB (stepB HBB.out HXB.out) (Below.refl X.heap.size X).drew))) ?_; rintro e w8 ⟨rfl, hb8⟩; have HB8 := Lib.hid (stepB (Below.refl X.heap.size X).drew hb8); clear hb8; dsimp only))
          refine anyS_one (i := 23) (by kernel_rfl) rfl (HS14.out _ HB8.out) (fun K hK => ?_)
          go_simp
          refine hK _ _ ?_
          clear hK K
          refine anyS_take (i := 24) (v := ?_) (by kernel_rfl) rfl (by kernel_rfl) (by kernel_rfl) (by kernel_rfl) (fun _ _ _ h => h) (by kernel_rfl) (fun _ => by kernel_rfl) ?_ ?_
          rotate_left
          · intro w' hS
            obtain ⟨s0, s1, s2, s3⟩ := hS
            go_simp
            try with_reducible rfl
          refine anyS_done (by kernel_rfl) (HS14.out _ HB8.out) ?_ _
          have HB9 := Lib.hid (stepB HXB.out HB8.out)
          gi_wp2
          exact ⟨(KpP.of_below (fun _ => False) (fun _ => False) HB9.out).from (fun k e => e.elim), HKW.out.trans (KpP.of_below _ _ HB9.out), stepB HBI.out HB9.out⟩
        | false =>
          have hyx := HFO.out.2.1 rfl
          have h33 := HFO.out.1
          clear HFO
          injection hyx with g0 g1 g2 g3 g4 g5' g6 g7 g8 g9 g10
          subst g0 g1 g2 g3 g4 g5' g6 g7 g8 g9 g10
          have e5 : (y3' == 5) = false := by rw [h33]; rfl
          have c14_0 : X.cell? ⟨b11, 0, none⟩ = some (.int .i64 y0') := cell_of_row X b11 0 _ _ (0, 0) HYR.out
          have c14_1 : X.cell? ⟨b11, 1, none⟩ = some (.int .i64 y1') := cell_of_row X b11 1 _ _ (0, 0) HYR.out
          have c14_2 : X.cell? ⟨b11, 2, none⟩ = some (.int .i64 y2') := cell_of_row X b11 2 _ _ (0, 0) HYR.out
          have c14_3 : X.cell? ⟨b11, 3, none⟩ = some (.int .i64 y3') := cell_of_row X b11 3 _ _ (0, 0) HYR.out
          have c14_4 : X.cell? ⟨b11, 4, none⟩ = some (.bool y4') := cell_of_row X b11 4 _ _ (0, 0) HYR.out
          have c14_5 : X.cell? ⟨b11, 5, none⟩ = some (.bool y5') := cell_of_row X b11 5 _ _ (0, 0) HYR.out
          have c14_6 : X.cell? ⟨b11, 6, none⟩ = some (.int .i64 y6') := cell_of_row X b11 6 _ _ (0, 0) HYR.out
          have c14_7 : X.cell? ⟨b11, 7, none⟩ = some (.int .i64 y7') := cell_of_row X b11 7 _ _ (0, 0) HYR.out
          have c14_8 : X.cell? ⟨b11, 8, none⟩ = some (.int .i64 y8') := cell_of_row X b11 8 _ _ (0, 0) HYR.out
          have c14_9 : X.cell? ⟨b11, 9, none⟩ = some (.int .i64 y9') := cell_of_row X b11 9 _ _ (0, 0) HYR.out
          have c14_10 : X.cell? ⟨b11, 10, none⟩ = some (.bool y10') := cell_of_row X b11 10 _ _ (0, 0) HYR.out
          have c14_11 : X.cell? ⟨bx, 0, none⟩ = some (.int .i64 y0') := cell_of_row X bx 0 _ _ (0, 0) HXR.out
          have c14_12 : X.cell? ⟨bx, 1, none⟩ = some (.int .i64 y1') := cell_of_row X bx 1 _ _ (0, 0) HXR.out
          have c14_13 : X.cell? ⟨bx, 2, none⟩ = some (.int .i64 y2') := cell_of_row X bx 2 _ _ (0, 0) HXR.out
          have c14_14 : X.cell? ⟨bx, 3, none⟩ = some (.int .i64 y3') := cell_of_row X bx 3 _ _ (0, 0) HXR.out
          have c14_15 : X.cell? ⟨bx, 4, none⟩ = some (.bool y4') := cell_of_row X bx 4 _ _ (0, 0) HXR.out
          have c14_16 : X.cell? ⟨bx, 5, none⟩ = some (.bool y5') := cell_of_row X bx 5 _ _ (0, 0) HXR.out
          have c14_17 : X.cell? ⟨bx, 6, none⟩ = some (.int .i64 y6') := cell_of_row X bx 6 _ _ (0, 0) HXR.out
          have c14_18 : X.cell? ⟨bx, 7, none⟩ = some (.int .i64 y7') := cell_of_row X bx 7 _ _ (0, 0) HXR.out
          have c14_19 : X.cell? ⟨bx, 8, none⟩ = some (.int .i64 y8') := cell_of_row X bx 8 _ _ (0, 0) HXR.out
          have c14_20 : X.cell? ⟨bx, 9, none⟩ = some (.int .i64 y9') := cell_of_row X bx 9 _ _ (0, 0) HXR.out
          have c14_21 : X.cell? ⟨bx, 10, none⟩ = some (.bool y10') := cell_of_row X bx 10 _ _ (0, 0) HXR.out
          have c14_22 : X.cell? ⟨a8, 0, none⟩ = some (.pointer (some ⟨qc, 0, none⟩)) := cell_stays (stepB HBB.out HXB.out) HC8.out
          have c14_23 : X.cell? ⟨qc, 0, none⟩ = some (.pointer (some ⟨bc, 0, none⟩)) := HKC.out
          have HS14 := Lib.hid (show ∀ w', Below X.heap.size X w' → (w'.cell? ⟨b11, 0, none⟩ = some (.int .i64 y0') ∧ w'.cell? ⟨b11, 1, none⟩ = some (.int .i64 y1') ∧ w'.cell? ⟨b11, 2, none⟩ = some (.int .i64 y2') ∧ w'.cell? ⟨b11, 3, none⟩ = some (.int .i64 y3') ∧ w'.cell? ⟨b11, 4, none⟩ = some (.bool y4') ∧ w'.cell? ⟨b11, 5, none⟩ = some (.bool y5') ∧ w'.cell? ⟨b11, 6, none⟩ = some (.int .i64 y6') ∧ w'.cell? ⟨b11, 7, none⟩ = some (.int .i64 y7') ∧ w'.cell? ⟨b11, 8, none⟩ = some (.int .i64 y8') ∧ w'.cell? ⟨b11, 9, none⟩ = some (.int .i64 y9') ∧ w'.cell? ⟨b11, 10, none⟩ = some (.bool y10') ∧ w'.cell? ⟨bx, 0, none⟩ = some (.int .i64 y0') ∧ w'.cell? ⟨bx, 1, none⟩ = some (.int .i64 y1') ∧ w'.cell? ⟨bx, 2, none⟩ = some (.int .i64 y2') ∧ w'.cell? ⟨bx, 3, none⟩ = some (.int .i64 y3') ∧ w'.cell? ⟨bx, 4, none⟩ = some (.bool y4') ∧ w'.cell? ⟨bx, 5, none⟩ = some (.bool y5') ∧ w'.cell? ⟨bx, 6, none⟩ = some (.int .i64 y6') ∧ w'.cell? ⟨bx, 7, none⟩ = some (.int .i64 y7') ∧ w'.cell? ⟨bx, 8, none⟩ = some (.int .i64 y8') ∧ w'.cell? ⟨bx, 9, none⟩ = some (.int .i64 y9') ∧ w'.cell? ⟨bx, 10, none⟩ = some (.bool y10') ∧ w'.cell? ⟨a8, 0, none⟩ = some (.pointer (some ⟨qc, 0, none⟩)) ∧ w'.cell? ⟨qc, 0, none⟩ = some (.pointer (some ⟨bc, 0, none⟩))) from fun w' h => ⟨cell_stays h c14_0, cell_stays h c14_1, cell_stays h c14_2, cell_stays h c14_3, cell_stays h c14_4, cell_stays h c14_5, cell_stays h c14_6, cell_stays h c14_7, cell_stays h c14_8, cell_stays h c14_9, cell_stays h c14_10, cell_stays h c14_11, cell_stays h c14_12, cell_stays h c14_13, cell_stays h c14_14, cell_stays h c14_15, cell_stays h c14_16, cell_stays h c14_17, cell_stays h c14_18, cell_stays h c14_19, cell_stays h c14_20, cell_stays h c14_21, cell_stays h c14_22, cell_stays h c14_23⟩)
          clear c14_0 c14_1 c14_2 c14_3 c14_4 c14_5 c14_6 c14_7 c14_8 c14_9 c14_10 c14_11 c14_12 c14_13 c14_14 c14_15 c14_16 c14_17 c14_18 c14_19 c14_20 c14_21 c14_22 c14_23
          gi_wp2
          refine wpIn_region_any (by kernel_rfl) ?_
          change wpAnyIn _ _ _ _ _ _ _ _ _ (World.drew X)
          refine anyS.any (S := (fun w' => w'.cell? ⟨b11, 0, none⟩ = some (.int .i64 y0') ∧ w'.cell? ⟨b11, 1, none⟩ = some (.int .i64 y1') ∧ w'.cell? ⟨b11, 2, none⟩ = some (.int .i64 y2') ∧ w'.cell? ⟨b11, 3, none⟩ = some (.int .i64 y3') ∧ w'.cell? ⟨b11, 4, none⟩ = some (.bool y4') ∧ w'.cell? ⟨b11, 5, none⟩ = some (.bool y5') ∧ w'.cell? ⟨b11, 6, none⟩ = some (.int .i64 y6') ∧ w'.cell? ⟨b11, 7, none⟩ = some (.int .i64 y7') ∧ w'.cell? ⟨b11, 8, none⟩ = some (.int .i64 y8') ∧ w'.cell? ⟨b11, 9, none⟩ = some (.int .i64 y9') ∧ w'.cell? ⟨b11, 10, none⟩ = some (.bool y10') ∧ w'.cell? ⟨bx, 0, none⟩ = some (.int .i64 y0') ∧ w'.cell? ⟨bx, 1, none⟩ = some (.int .i64 y1') ∧ w'.cell? ⟨bx, 2, none⟩ = some (.int .i64 y2') ∧ w'.cell? ⟨bx, 3, none⟩ = some (.int .i64 y3') ∧ w'.cell? ⟨bx, 4, none⟩ = some (.bool y4') ∧ w'.cell? ⟨bx, 5, none⟩ = some (.bool y5') ∧ w'.cell? ⟨bx, 6, none⟩ = some (.int .i64 y6') ∧ w'.cell? ⟨bx, 7, none⟩ = some (.int .i64 y7') ∧ w'.cell? ⟨bx, 8, none⟩ = some (.int .i64 y8') ∧ w'.cell? ⟨bx, 9, none⟩ = some (.int .i64 y9') ∧ w'.cell? ⟨bx, 10, none⟩ = some (.bool y10') ∧ w'.cell? ⟨a8, 0, none⟩ = some (.pointer (some ⟨qc, 0, none⟩)) ∧ w'.cell? ⟨qc, 0, none⟩ = some (.pointer (some ⟨bc, 0, none⟩)))) ?_
          refine anyS_take (i := 0) (v := ?_) (by kernel_rfl) rfl (by kernel_rfl) (by kernel_rfl) (by kernel_rfl) (fun _ _ _ h => h) (by kernel_rfl) (fun _ => by kernel_rfl) ?_ ?_
          rotate_left
          · intro w' hS
            obtain ⟨s0, s1, s2, s3, s4, s5, s6, s7, s8, s9, s10, s11, s12, s13, s14, s15, s16, s17, s18, s19, s20, s21, s22, s23⟩ := hS
            go_simp
            try with_reducible rfl
          refine anyS_take (i := 1) (v := ?_) (by kernel_rfl) rfl (by kernel_rfl) (by kernel_rfl) (by kernel_rfl) (fun _ _ _ h => h) (by kernel_rfl) (fun _ => by kernel_rfl) ?_ ?_
          rotate_left
          · intro w' hS
            obtain ⟨s0, s1, s2, s3, s4, s5, s6, s7, s8, s9, s10, s11, s12, s13, s14, s15, s16, s17, s18, s19, s20, s21, s22, s23⟩ := hS
            go_simp
            try with_reducible rfl
          refine anyS_take (i := 2) (v := ?_) (by kernel_rfl) rfl (by kernel_rfl) (by kernel_rfl) (by kernel_rfl) (fun _ _ _ h => h) (by kernel_rfl) (fun _ => by kernel_rfl) ?_ ?_
          rotate_left
          · intro w' hS
            obtain ⟨s0, s1, s2, s3, s4, s5, s6, s7, s8, s9, s10, s11, s12, s13, s14, s15, s16, s17, s18, s19, s20, s21, s22, s23⟩ := hS
            go_simp
            try with_reducible rfl
          refine anyS_one (i := 3) (by kernel_rfl) rfl (HS14.out _ (Below.refl X.heap.size X).drew) (fun K hK => ?_)
          go_simp
          refine hK _ _ ?_
          clear hK K
          refine anyS_one (i := 4) (by kernel_rfl) rfl (HS14.out _ (Below.refl X.heap.size X).drew) (fun K hK => ?_)
          go_simp
          refine hK _ _ ?_
          clear hK K
          refine anyS_take (i := 5) (v := ?_) (by kernel_rfl) rfl (by kernel_rfl) (by kernel_rfl) (by kernel_rfl) (fun _ _ _ h => h) (by kernel_rfl) (fun _ => by kernel_rfl) ?_ ?_
          rotate_left
          · intro w' hS
            obtain ⟨s0, s1, s2, s3, s4, s5, s6, s7, s8, s9, s10, s11, s12, s13, s14, s15, s16, s17, s18, s19, s20, s21, s22, s23⟩ := hS
            go_simp
            try with_reducible rfl
          refine anyS_take (i := 6) (v := ?_) (by kernel_rfl) rfl (by kernel_rfl) (by kernel_rfl) (by kernel_rfl) (fun _ _ _ h => h) (by kernel_rfl) (fun _ => by kernel_rfl) ?_ ?_
          rotate_left
          · intro w' hS
            obtain ⟨s0, s1, s2, s3, s4, s5, s6, s7, s8, s9, s10, s11, s12, s13, s14, s15, s16, s17, s18, s19, s20, s21, s22, s23⟩ := hS
            go_simp
            try with_reducible rfl
          refine anyS_one (i := 7) (by kernel_rfl) rfl (HS14.out _ (Below.refl X.heap.size X).drew) (fun K hK => ?_)
          go_simp
          refine hK _ _ ?_
          clear hK K
          refine anyS_take (i := 8) (v := ?_) (by kernel_rfl) rfl (by kernel_rfl) (by kernel_rfl) (by kernel_rfl) (fun _ _ _ h => h) (by kernel_rfl) (fun _ => by kernel_rfl) ?_ ?_
          rotate_left
          · intro w' hS
            obtain ⟨s0, s1, s2, s3, s4, s5, s6, s7, s8, s9, s10, s11, s12, s13, s14, s15, s16, s17, s18, s19, s20, s21, s22, s23⟩ := hS
            go_simp
            try with_reducible rfl
          refine anyS_take (i := 9) (v := ?_) (by kernel_rfl) rfl (by kernel_rfl) (by kernel_rfl) (by kernel_rfl) (fun _ _ _ h => h) (by kernel_rfl) (fun _ => by kernel_rfl) ?_ ?_
          rotate_left
          · intro w' hS
            obtain ⟨s0, s1, s2, s3, s4, s5, s6, s7, s8, s9, s10, s11, s12, s13, s14, s15, s16, s17, s18, s19, s20, s21, s22, s23⟩ := hS
            go_simp
            try with_reducible rfl
          refine anyS_take (i := 10) (v := ?_) (by kernel_rfl) rfl (by kernel_rfl) (by kernel_rfl) (by kernel_rfl) (fun _ _ _ h => h) (by kernel_rfl) (fun _ => by kernel_rfl) ?_ ?_
          rotate_left
          · intro w' hS
            obtain ⟨s0, s1, s2, s3, s4, s5, s6, s7, s8, s9, s10, s11, s12, s13, s14, s15, s16, s17, s18, s19, s20, s21, s22, s23⟩ := hS
            go_simp
            try with_reducible rfl
          have h2 := @neqgO
          have h3 := fun W => neqObj y0' y0' y1' y1' y2' y2' y3' y3' y6' y6' y7' y7' y8' y8' y9' y9' y4' y4' y5' y5' y10' y10' W
          refine anyS_one (i := 11) (by kernel_rfl) rfl (HS14.out _ (Below.refl X.heap.size X).drew) (fun K hK => ?_)
          go_simp
          refine hK _ _ ?_
          clear hK K
          clear h2 h3
          refine anyS_take (i := 12) (v := ?_) (by kernel_rfl) rfl (by kernel_rfl) (by kernel_rfl) (by kernel_rfl) (fun _ _ _ h => h) (by kernel_rfl) (fun _ => by kernel_rfl) ?_ ?_
          rotate_left
          · intro w' hS
            obtain ⟨s0, s1, s2, s3, s4, s5, s6, s7, s8, s9, s10, s11, s12, s13, s14, s15, s16, s17, s18, s19, s20, s21, s22, s23⟩ := hS
            go_simp
            try with_reducible rfl
          refine anyS_take (i := 13) (v := ?_) (by kernel_rfl) rfl (by kernel_rfl) (by kernel_rfl) (by kernel_rfl) (fun _ _ _ h => h) (by kernel_rfl) (fun _ => by kernel_rfl) ?_ ?_
          rotate_left
          · intro w' hS
            obtain ⟨s0, s1, s2, s3, s4, s5, s6, s7, s8, s9, s10, s11, s12, s13, s14, s15, s16, s17, s18, s19, s20, s21, s22, s23⟩ := hS
            go_simp
            try with_reducible rfl
          refine anyS_take (i := 14) (v := ?_) (by kernel_rfl) rfl (by kernel_rfl) (by kernel_rfl) (by kernel_rfl) (fun _ _ _ h => h) (by kernel_rfl) (fun _ => by kernel_rfl) ?_ ?_
          rotate_left
          · intro w' hS
            obtain ⟨s0, s1, s2, s3, s4, s5, s6, s7, s8, s9, s10, s11, s12, s13, s14, s15, s16, s17, s18, s19, s20, s21, s22, s23⟩ := hS
            go_simp
            try with_reducible rfl
          refine anyS_take (i := 15) (v := ?_) (by kernel_rfl) rfl (by kernel_rfl) (by kernel_rfl) (by kernel_rfl) (fun _ _ _ h => h) (by kernel_rfl) (fun _ => by kernel_rfl) ?_ ?_
          rotate_left
          · intro w' hS
            obtain ⟨s0, s1, s2, s3, s4, s5, s6, s7, s8, s9, s10, s11, s12, s13, s14, s15, s16, s17, s18, s19, s20, s21, s22, s23⟩ := hS
            go_simp
            try with_reducible rfl
          refine anyS_take (i := 16) (v := ?_) (by kernel_rfl) rfl (by kernel_rfl) (by kernel_rfl) (by kernel_rfl) (fun _ _ _ h => h) (by kernel_rfl) (fun _ => by kernel_rfl) ?_ ?_
          rotate_left
          · intro w' hS
            obtain ⟨s0, s1, s2, s3, s4, s5, s6, s7, s8, s9, s10, s11, s12, s13, s14, s15, s16, s17, s18, s19, s20, s21, s22, s23⟩ := hS
            go_simp
            try with_reducible rfl
          refine anyS_take (i := 17) (v := ?_) (by kernel_rfl) rfl (by kernel_rfl) (by kernel_rfl) (by kernel_rfl) (fun _ _ _ h => h) (by kernel_rfl) (fun _ => by kernel_rfl) ?_ ?_
          rotate_left
          · intro w' hS
            obtain ⟨s0, s1, s2, s3, s4, s5, s6, s7, s8, s9, s10, s11, s12, s13, s14, s15, s16, s17, s18, s19, s20, s21, s22, s23⟩ := hS
            go_simp
            try with_reducible rfl
          refine anyS_take (i := 18) (v := ?_) (by kernel_rfl) rfl (by kernel_rfl) (by kernel_rfl) (by kernel_rfl) (fun _ _ _ h => h) (by kernel_rfl) (fun _ => by kernel_rfl) ?_ ?_
          rotate_left
          · intro w' hS
            obtain ⟨s0, s1, s2, s3, s4, s5, s6, s7, s8, s9, s10, s11, s12, s13, s14, s15, s16, s17, s18, s19, s20, s21, s22, s23⟩ := hS
            go_simp
            try with_reducible rfl
          refine anyS_take (i := 19) (v := ?_) (by kernel_rfl) rfl (by kernel_rfl) (by kernel_rfl) (by kernel_rfl) (fun _ _ _ h => h) (by kernel_rfl) (fun _ => by kernel_rfl) ?_ ?_
          rotate_left
          · intro w' hS
            obtain ⟨s0, s1, s2, s3, s4, s5, s6, s7, s8, s9, s10, s11, s12, s13, s14, s15, s16, s17, s18, s19, s20, s21, s22, s23⟩ := hS
            go_simp
            try with_reducible rfl
          refine anyS_take (i := 20) (v := ?_) (by kernel_rfl) rfl (by kernel_rfl) (by kernel_rfl) (by kernel_rfl) (fun _ _ _ h => h) (by kernel_rfl) (fun _ => by kernel_rfl) ?_ ?_
          rotate_left
          · intro w' hS
            obtain ⟨s0, s1, s2, s3, s4, s5, s6, s7, s8, s9, s10, s11, s12, s13, s14, s15, s16, s17, s18, s19, s20, s21, s22, s23⟩ := hS
            go_simp
            try with_reducible rfl
          refine anyS_take (i := 21) (v := ?_) (by kernel_rfl) rfl (by kernel_rfl) (by kernel_rfl) (by kernel_rfl) (fun _ _ _ h => h) (by kernel_rfl) (fun _ => by kernel_rfl) ?_ ?_
          rotate_left
          · intro w' hS
            obtain ⟨s0, s1, s2, s3, s4, s5, s6, s7, s8, s9, s10, s11, s12, s13, s14, s15, s16, s17, s18, s19, s20, s21, s22, s23⟩ := hS
            go_simp
            try with_reducible rfl
          refine anyS_one (i := 22) (by kernel_rfl) rfl (HS14.out _ (Below.refl X.heap.size X).drew) (fun K hK => ?_)
          go_simp
          gi_wp2_with ((refine ⟨trivial, ?_⟩; gi_at_call 32; refine CallsIn.mono (F := Fence.wide) (callsIn_wide.2 (HDX.out _ (stepB (stepB HBB.out HXB.out) (Below.refl X.heap.size X).drew))) ?_; rintro e w8 ⟨rfl, hb8⟩; have HB8 := Lib.hid (stepB (Below.refl X.heap.size X).drew hb8); clear hb8; dsimp only))
          refine anyS_one (i := 23) (by kernel_rfl) rfl (HS14.out _ HB8.out) (fun K hK => ?_)
          go_simp
          refine hK _ _ ?_
          clear hK K
          refine anyS_take (i := 24) (v := ?_) (by kernel_rfl) rfl (by kernel_rfl) (by kernel_rfl) (by kernel_rfl) (fun _ _ _ h => h) (by kernel_rfl) (fun _ => by kernel_rfl) ?_ ?_
          rotate_left
          · intro w' hS
            obtain ⟨s0, s1, s2, s3, s4, s5, s6, s7, s8, s9, s10, s11, s12, s13, s14, s15, s16, s17, s18, s19, s20, s21, s22, s23⟩ := hS
            go_simp
            try with_reducible rfl
          refine anyS_done (by kernel_rfl) (HS14.out _ HB8.out) ?_ _
          have HB9 := Lib.hid (stepB HXB.out HB8.out)
          gi_wp2
          exact ⟨(KpP.of_below (fun _ => False) (fun _ => False) HB9.out).from (fun k e => e.elim), HKW.out.trans (KpP.of_below _ _ HB9.out), stepB HBI.out HB9.out⟩
      · go_simp
        refine hK _ _ ?_
        clear hK K
        refine anyS_one (i := 6) (by kernel_rfl) rfl (HS12.out _ (by first | exact (below_new Wb _).drew | exact below_alloc2 (Below.refl _ _).drew _)) (fun K hK => ?_)
        go_simp
        gi_wp2_with ((refine ⟨trivial, ?_⟩; gi_at_call 10; refine CallsIn.mono (F := Fence.wide) (callsIn_wide.2 (HGX.out _ (stepB HBB.out (by first | exact (below_new Wb _).drew | exact below_alloc2 (Below.refl _ _).drew _)))) ?_; rintro e w6 ⟨rfl, hb6⟩; have HZ6 : Hid (w6.heap[Wb.heap.size]? = some (.cells #[.int .i64 0, .int .i64 0, .int .i64 0, .int .i64 0, .bool false, .bool false, .int .i64 0, .int .i64 0, .int .i64 0, .int .i64 0, .bool false] 39 (0, 0))) := Lib.hid ((hb6.block Wb.heap.size (by show Wb.heap.size < (Wb.alloc (.cells #[.int .i64 0, .int .i64 0, .int .i64 0, .int .i64 0, .bool false, .bool false, .int .i64 0, .int .i64 0, .int .i64 0, .int .i64 0, .bool false] 39)).heap.size; simp)).trans (heap_alloc_new Wb (.cells #[.int .i64 0, .int .i64 0, .int .i64 0, .int .i64 0, .bool false, .bool false, .int .i64 0, .int .i64 0, .int .i64 0, .int .i64 0, .bool false] 39))); have HB6 := Lib.hid (stepB (show Below Wb.heap.size Wb _ from (by first | exact (below_new Wb _).drew | exact below_alloc2 (Below.refl _ _).drew _)) hb6); clear hb6; dsimp only))
        have HXB0 := Lib.hid (((((((((((HB6.out.setCell (Nat.le_refl _) (.int .i64 y0') (p := ⟨Wb.heap.size, 0, none⟩)).setCell (Nat.le_refl _) (.int .i64 y1') (p := ⟨Wb.heap.size, 1, none⟩)).setCell (Nat.le_refl _) (.int .i64 y2') (p := ⟨Wb.heap.size, 2, none⟩)).setCell (Nat.le_refl _) (.int .i64 y3') (p := ⟨Wb.heap.size, 3, none⟩)).setCell (Nat.le_refl _) (.bool y4') (p := ⟨Wb.heap.size, 4, none⟩)).setCell (Nat.le_refl _) (.bool y5') (p := ⟨Wb.heap.size, 5, none⟩)).setCell (Nat.le_refl _) (.int .i64 y6') (p := ⟨Wb.heap.size, 6, none⟩)).setCell (Nat.le_refl _) (.int .i64 y7') (p := ⟨Wb.heap.size, 7, none⟩)).setCell (Nat.le_refl _) (.int .i64 y8') (p := ⟨Wb.heap.size, 8, none⟩)).setCell (Nat.le_refl _) (.int .i64 y9') (p := ⟨Wb.heap.size, 9, none⟩)).setCell (Nat.le_refl _) (.bool y10') (p := ⟨Wb.heap.size, 10, none⟩))
        have HYR0 := Lib.hid (set11row (.int .i64 y0') (.int .i64 y1') (.int .i64 y2') (.int .i64 y3') (.bool y4') (.bool y5') (.int .i64 y6') (.int .i64 y7') (.int .i64 y8') (.int .i64 y9') (.bool y10') HZ6.out rfl)
        refine anyS_take (i := 7) (v := ?_) (by kernel_rfl) rfl (by kernel_rfl) (by kernel_rfl) (by kernel_rfl) (fun _ _ _ h => h) (by kernel_rfl) (fun _ => by kernel_rfl) ?_ ?_
        rotate_left
        · intro w' hS
          obtain ⟨s0, s1, s2⟩ := hS
          go_simp
          try with_reducible rfl
        refine anyS_take (i := 8) (v := ?_) (by kernel_rfl) rfl (by kernel_rfl) (by kernel_rfl) (by kernel_rfl) (fun _ _ _ h => h) (by kernel_rfl) (fun _ => by kernel_rfl) ?_ ?_
        rotate_left
        · intro w' hS
          obtain ⟨s0, s1, s2⟩ := hS
          go_simp
          try with_reducible rfl
        refine anyS_take (i := 9) (v := ?_) (by kernel_rfl) rfl (by kernel_rfl) (by kernel_rfl) (by kernel_rfl) (fun _ _ _ h => h) (by kernel_rfl) (fun _ => by kernel_rfl) ?_ ?_
        rotate_left
        · intro w' hS
          obtain ⟨s0, s1, s2⟩ := hS
          go_simp
          try with_reducible rfl
        have hl6 := (Array.getElem?_eq_some_iff.1 HZ6.out).1
        have z6_0 := cell_of_row w6 Wb.heap.size 0 _ _ (0, 0) HZ6.out
        have f6_0 := frozen_of_row w6 Wb.heap.size 0 _ _ HZ6.out
        have z6_1 := cell_of_row w6 Wb.heap.size 1 _ _ (0, 0) HZ6.out
        have f6_1 := frozen_of_row w6 Wb.heap.size 1 _ _ HZ6.out
        have z6_2 := cell_of_row w6 Wb.heap.size 2 _ _ (0, 0) HZ6.out
        have f6_2 := frozen_of_row w6 Wb.heap.size 2 _ _ HZ6.out
        have z6_3 := cell_of_row w6 Wb.heap.size 3 _ _ (0, 0) HZ6.out
        have f6_3 := frozen_of_row w6 Wb.heap.size 3 _ _ HZ6.out
        have z6_4 := cell_of_row w6 Wb.heap.size 4 _ _ (0, 0) HZ6.out
        have f6_4 := frozen_of_row w6 Wb.heap.size 4 _ _ HZ6.out
        have z6_5 := cell_of_row w6 Wb.heap.size 5 _ _ (0, 0) HZ6.out
        have f6_5 := frozen_of_row w6 Wb.heap.size 5 _ _ HZ6.out
        have z6_6 := cell_of_row w6 Wb.heap.size 6 _ _ (0, 0) HZ6.out
        have f6_6 := frozen_of_row w6 Wb.heap.size 6 _ _ HZ6.out
        have z6_7 := cell_of_row w6 Wb.heap.size 7 _ _ (0, 0) HZ6.out
        have f6_7 := frozen_of_row w6 Wb.heap.size 7 _ _ HZ6.out
        have z6_8 := cell_of_row w6 Wb.heap.size 8 _ _ (0, 0) HZ6.out
        have f6_8 := frozen_of_row w6 Wb.heap.size 8 _ _ HZ6.out
        have z6_9 := cell_of_row w6 Wb.heap.size 9 _ _ (0, 0) HZ6.out
        have f6_9 := frozen_of_row w6 Wb.heap.size 9 _ _ HZ6.out
        have z6_10 := cell_of_row w6 Wb.heap.size 10 _ _ (0, 0) HZ6.out
        have f6_10 := frozen_of_row w6 Wb.heap.size 10 _ _ HZ6.out
        refine anyS_one (i := 11) (by kernel_rfl) rfl (HS12.out _ HB6.out) (fun K hK => ?_)
        go_simp
        refine hK _ _ ?_
        clear hK K
        clear z6_0 f6_0 z6_1 f6_1 z6_2 f6_2 z6_3 f6_3 z6_4 f6_4 z6_5 f6_5 z6_6 f6_6 z6_7 f6_7 z6_8 f6_8 z6_9 f6_9 z6_10 f6_10 hl6
        first | (refine anyS_one (i := 12) (by kernel_rfl) rfl (HS12.out _ HXB0.out) (fun K hK => ?_); go_simp; refine hK _ _ ?_; clear hK K) | skip
        refine anyS_done (by kernel_rfl) (HS12.out _ HXB0.out) ?_ _
        obtain ⟨X, hX⟩ : ∃ X, ((((((((((w6.setCell ⟨Wb.heap.size, 0, none⟩ (.int .i64 y0')).setCell ⟨Wb.heap.size, 1, none⟩ (.int .i64 y1')).setCell ⟨Wb.heap.size, 2, none⟩ (.int .i64 y2')).setCell ⟨Wb.heap.size, 3, none⟩ (.int .i64 y3')).setCell ⟨Wb.heap.size, 4, none⟩ (.bool y4')).setCell ⟨Wb.heap.size, 5, none⟩ (.bool y5')).setCell ⟨Wb.heap.size, 6, none⟩ (.int .i64 y6')).setCell ⟨Wb.heap.size, 7, none⟩ (.int .i64 y7')).setCell ⟨Wb.heap.size, 8, none⟩ (.int .i64 y8')).setCell ⟨Wb.heap.size, 9, none⟩ (.int .i64 y9')).setCell ⟨Wb.heap.size, 10, none⟩ (.bool y10') = X := ⟨_, rfl⟩
        obtain ⟨b11, hb11⟩ : ∃ b11, Wb.heap.size = b11 := ⟨_, rfl⟩
        rw [hX] at HXB0 HYR0 ⊢
        rw [hb11] at HYR0 ⊢
        have HXB := HXB0
        have HYR := HYR0
        clear HXB0 HYR0 hX hb11 HB6 HZ6
        have HXR := Lib.hid ((HXB.out.block bx (Array.getElem?_eq_some_iff.1 HROW.out).1).trans HROW.out)
        have r0 := cell_stays (stepB HBB.out HXB.out) HR0.out
        have o0 := cell_of_row X bx 0 _ _ (0, 0) HXR.out
        have HKC := Lib.hid (show X.cell? ⟨qc, 0, none⟩ = some (.pointer (some ⟨bc, 0, none⟩)) from by have h1 := cell_stays (stepB HBB.out HXB.out) HK0.out; rw [hbc] at h1; exact h1)
        gi_wp2_with fail
        refine ⟨trivial, (callsIn_wide.2 (HHX.out X (stepB HBB.out HXB.out))).mono ?_⟩
        rintro e w7 ⟨rfl, e7⟩
        rw [e7]
        clear e7 w7 r0 o0
        dsimp only
        cases z with
        | true =>
          have e5 : (y3' == 5) = true := by have h := HFO.out.2.2 rfl; rw [h]; rfl
          clear HFO
          have c14_0 : X.cell? ⟨b11, 3, none⟩ = some (.int .i64 y3') := cell_of_row X b11 3 _ _ (0, 0) HYR.out
          have c14_1 : X.cell? ⟨bx, 0, none⟩ = some (.int .i64 x0) := cell_of_row X bx 0 _ _ (0, 0) HXR.out
          have c14_2 : X.cell? ⟨a8, 0, none⟩ = some (.pointer (some ⟨qc, 0, none⟩)) := cell_stays (stepB HBB.out HXB.out) HC8.out
          have c14_3 : X.cell? ⟨qc, 0, none⟩ = some (.pointer (some ⟨bc, 0, none⟩)) := HKC.out
          have HS14 := Lib.hid (show ∀ w', Below X.heap.size X w' → (w'.cell? ⟨b11, 3, none⟩ = some (.int .i64 y3') ∧ w'.cell? ⟨bx, 0, none⟩ = some (.int .i64 x0) ∧ w'.cell? ⟨a8, 0, none⟩ = some (.pointer (some ⟨qc, 0, none⟩)) ∧ w'.cell? ⟨qc, 0, none⟩ = some (.pointer (some ⟨bc, 0, none⟩))) from fun w' h => ⟨cell_stays h c14_0, cell_stays h c14_1, cell_stays h c14_2, cell_stays h c14_3⟩)
          clear c14_0 c14_1 c14_2 c14_3
          gi_wp2
          refine wpIn_region_any (by kernel_rfl) ?_
          change wpAnyIn _ _ _ _ _ _ _ _ _ (World.drew X)
          refine anyS.any (S := (fun w' => w'.cell? ⟨b11, 3, none⟩ = some (.int .i64 y3') ∧ w'.cell? ⟨bx, 0, none⟩ = some (.int .i64 x0) ∧ w'.cell? ⟨a8, 0, none⟩ = some (.pointer (some ⟨qc, 0, none⟩)) ∧ w'.cell? ⟨qc, 0, none⟩ = some (.pointer (some ⟨bc, 0, none⟩)))) ?_
          refine anyS_take (i := 0) (v := ?_) (by kernel_rfl) rfl (by kernel_rfl) (by kernel_rfl) (by kernel_rfl) (fun _ _ _ h => h) (by kernel_rfl) (fun _ => by kernel_rfl) ?_ ?_
          rotate_left
          · intro w' hS
            obtain ⟨s0, s1, s2, s3⟩ := hS
            go_simp
            try with_reducible rfl
          refine anyS_take (i := 1) (v := ?_) (by kernel_rfl) rfl (by kernel_rfl) (by kernel_rfl) (by kernel_rfl) (fun _ _ _ h => h) (by kernel_rfl) (fun _ => by kernel_rfl) ?_ ?_
          rotate_left
          · intro w' hS
            obtain ⟨s0, s1, s2, s3⟩ := hS
            go_simp
            try with_reducible rfl
          refine anyS_take (i := 2) (v := ?_) (by kernel_rfl) rfl (by kernel_rfl) (by kernel_rfl) (by kernel_rfl) (fun _ _ _ h => h) (by kernel_rfl) (fun _ => by kernel_rfl) ?_ ?_
          rotate_left
          · intro w' hS
            obtain ⟨s0, s1, s2, s3⟩ := hS
            go_simp
            try with_reducible rfl
          refine anyS_one (i := 3) (by kernel_rfl) rfl (HS14.out _ (Below.refl X.heap.size X).drew) (fun K hK => ?_)
          go_simp
          refine hK _ _ ?_
          clear hK K
          refine anyS_one (i := 4) (by kernel_rfl) rfl (HS14.out _ (Below.refl X.heap.size X).drew) (fun K hK => ?_)
          go_simp
          refine hK _ _ ?_
          clear hK K
          refine anyS_take (i := 5) (v := ?_) (by kernel_rfl) rfl (by kernel_rfl) (by kernel_rfl) (by kernel_rfl) (fun _ _ _ h => h) (by kernel_rfl) (fun _ => by kernel_rfl) ?_ ?_
          rotate_left
          · intro w' hS
            obtain ⟨s0, s1, s2, s3⟩ := hS
            go_simp
            try with_reducible rfl
          refine anyS_take (i := 6) (v := ?_) (by kernel_rfl) rfl (by kernel_rfl) (by kernel_rfl) (by kernel_rfl) (fun _ _ _ h => h) (by kernel_rfl) (fun _ => by kernel_rfl) ?_ ?_
          rotate_left
          · intro w' hS
            obtain ⟨s0, s1, s2, s3⟩ := hS
            go_simp
            try with_reducible rfl
          refine anyS_one (i := 7) (by kernel_rfl) rfl (HS14.out _ (Below.refl X.heap.size X).drew) (fun K hK => ?_)
          go_simp
          refine hK _ _ ?_
          clear hK K
          refine anyS_take (i := 8) (v := ?_) (by kernel_rfl) rfl (by kernel_rfl) (by kernel_rfl) (by kernel_rfl) (fun _ _ _ h => h) (by kernel_rfl) (fun _ => by kernel_rfl) ?_ ?_
          rotate_left
          · intro w' hS
            obtain ⟨s0, s1, s2, s3⟩ := hS
            go_simp
            try with_reducible rfl
          refine anyS_skip (i := 9) (by kernel_rfl) rfl (by kernel_rfl) (by kernel_rfl) (by kernel_rfl) (fun _ _ _ h => h) (by kernel_rfl) (fun _ => by kernel_rfl) ?_
          refine anyS_skip (i := 10) (by kernel_rfl) rfl (by kernel_rfl) (by kernel_rfl) (by kernel_rfl) (fun _ _ _ h => h) (by kernel_rfl) (fun _ => by kernel_rfl) ?_
          refine anyS_skip (i := 11) (by kernel_rfl) rfl (by kernel_rfl) (by kernel_rfl) (by kernel_rfl) (fun _ _ _ h => h) (by kernel_rfl) (fun _ => by kernel_rfl) ?_
          refine anyS_take (i := 12) (v := ?_) (by kernel_rfl) rfl (by kernel_rfl) (by kernel_rfl) (by kernel_rfl) (fun _ _ _ h => h) (by kernel_rfl) (fun _ => by kernel_rfl) ?_ ?_
          rotate_left
          · intro w' hS
            obtain ⟨s0, s1, s2, s3⟩ := hS
            go_simp
            try with_reducible rfl
          refine anyS_take (i := 13) (v := ?_) (by kernel_rfl) rfl (by kernel_rfl) (by kernel_rfl) (by kernel_rfl) (fun _ _ _ h => h) (by kernel_rfl) (fun _ => by kernel_rfl) ?_ ?_
          rotate_left
          · intro w' hS
            obtain ⟨s0, s1, s2, s3⟩ := hS
            go_simp
            try with_reducible rfl
          refine anyS_take (i := 14) (v := ?_) (by kernel_rfl) rfl (by kernel_rfl) (by kernel_rfl) (by kernel_rfl) (fun _ _ _ h => h) (by kernel_rfl) (fun _ => by kernel_rfl) ?_ ?_
          rotate_left
          · intro w' hS
            obtain ⟨s0, s1, s2, s3⟩ := hS
            go_simp
            try with_reducible rfl
          refine anyS_take (i := 15) (v := ?_) (by kernel_rfl) rfl (by kernel_rfl) (by kernel_rfl) (by kernel_rfl) (fun _ _ _ h => h) (by kernel_rfl) (fun _ => by kernel_rfl) ?_ ?_
          rotate_left
          · intro w' hS
            obtain ⟨s0, s1, s2, s3⟩ := hS
            go_simp
            try with_reducible rfl
          refine anyS_take (i := 16) (v := ?_) (by kernel_rfl) rfl (by kernel_rfl) (by kernel_rfl) (by kernel_rfl) (fun _ _ _ h => h) (by kernel_rfl) (fun _ => by kernel_rfl) ?_ ?_
          rotate_left
          · intro w' hS
            obtain ⟨s0, s1, s2, s3⟩ := hS
            go_simp
            try with_reducible rfl
          refine anyS_take (i := 17) (v := ?_) (by kernel_rfl) rfl (by kernel_rfl) (by kernel_rfl) (by kernel_rfl) (fun _ _ _ h => h) (by kernel_rfl) (fun _ => by kernel_rfl) ?_ ?_
          rotate_left
          · intro w' hS
            obtain ⟨s0, s1, s2, s3⟩ := hS
            go_simp
            try with_reducible rfl
          refine anyS_take (i := 18) (v := ?_) (by kernel_rfl) rfl (by kernel_rfl) (by kernel_rfl) (by kernel_rfl) (fun _ _ _ h => h) (by kernel_rfl) (fun _ => by kernel_rfl) ?_ ?_
          rotate_left
          · intro w' hS
            obtain ⟨s0, s1, s2, s3⟩ := hS
            go_simp
            try with_reducible rfl
          refine anyS_take (i := 19) (v := ?_) (by kernel_rfl) rfl (by kernel_rfl) (by kernel_rfl) (by kernel_rfl) (fun _ _ _ h => h) (by kernel_rfl) (fun _ => by kernel_rfl) ?_ ?_
          rotate_left
          · intro w' hS
            obtain ⟨s0, s1, s2, s3⟩ := hS
            go_simp
            try with_reducible rfl
          refine anyS_take (i := 20) (v := ?_) (by kernel_rfl) rfl (by kernel_rfl) (by kernel_rfl) (by kernel_rfl) (fun _ _ _ h => h) (by kernel_rfl) (fun _ => by kernel_rfl) ?_ ?_
          rotate_left
          · intro w' hS
            obtain ⟨s0, s1, s2, s3⟩ := hS
            go_simp
            try with_reducible rfl
          refine anyS_take (i := 21) (v := ?_) (by kernel_rfl) rfl (by kernel_rfl) (by kernel_rfl) (by kernel_rfl) (fun _ _ _ h => h) (by kernel_rfl) (fun _ => by kernel_rfl) ?_ ?_
          rotate_left
          · intro w' hS
            obtain ⟨s0, s1, s2, s3⟩ := hS
            go_simp
            try with_reducible rfl
          refine anyS_one (i := 22) (by kernel_rfl) rfl (HS14.out _ (Below.refl X.heap.size X).drew) (fun K hK => ?_)
          go_simp
          gi_wp2_with ((refine ⟨trivial, ?_⟩; gi_at_call 32; refine CallsIn.mono (F := Fence.wide) (callsIn_wide.2 (HDX.out _ (stepB (stepB HBB.out HXB.out) (Below.refl X.heap.size X).drew))) ?_; rintro e w8 ⟨rfl, hb8⟩; have HB8 := Lib.hid (stepB (Below.refl X.heap.size X).drew hb8); clear hb8; dsimp only))
          refine anyS_one (i := 23) (by kernel_rfl) rfl (HS14.out _ HB8.out) (fun K hK => ?_)
          go_simp
          refine hK _ _ ?_
          clear hK K
          refine anyS_take (i := 24) (v := ?_) (by kernel_rfl) rfl (by kernel_rfl) (by kernel_rfl) (by kernel_rfl) (fun _ _ _ h => h) (by kernel_rfl) (fun _ => by kernel_rfl) ?_ ?_
          rotate_left
          · intro w' hS
            obtain ⟨s0, s1, s2, s3⟩ := hS
            go_simp
            try with_reducible rfl
          refine anyS_done (by kernel_rfl) (HS14.out _ HB8.out) ?_ _
          have HB9 := Lib.hid (stepB HXB.out HB8.out)
          gi_wp2
          exact ⟨(KpP.of_below (fun _ => False) (fun _ => False) HB9.out).from (fun k e => e.elim), HKW.out.trans (KpP.of_below _ _ HB9.out), stepB HBI.out HB9.out⟩
        | false =>
          have hyx := HFO.out.2.1 rfl
          have h33 := HFO.out.1
          clear HFO
          injection hyx with g0 g1 g2 g3 g4 g5' g6 g7 g8 g9 g10
          subst g0 g1 g2 g3 g4 g5' g6 g7 g8 g9 g10
          have e5 : (y3' == 5) = false := by rw [h33]; rfl
          have c14_0 : X.cell? ⟨b11, 0, none⟩ = some (.int .i64 y0') := cell_of_row X b11 0 _ _ (0, 0) HYR.out
          have c14_1 : X.cell? ⟨b11, 1, none⟩ = some (.int .i64 y1') := cell_of_row X b11 1 _ _ (0, 0) HYR.out
          have c14_2 : X.cell? ⟨b11, 2, none⟩ = some (.int .i64 y2') := cell_of_row X b11 2 _ _ (0, 0) HYR.out
          have c14_3 : X.cell? ⟨b11, 3, none⟩ = some (.int .i64 y3') := cell_of_row X b11 3 _ _ (0, 0) HYR.out
          have c14_4 : X.cell? ⟨b11, 4, none⟩ = some (.bool y4') := cell_of_row X b11 4 _ _ (0, 0) HYR.out
          have c14_5 : X.cell? ⟨b11, 5, none⟩ = some (.bool y5') := cell_of_row X b11 5 _ _ (0, 0) HYR.out
          have c14_6 : X.cell? ⟨b11, 6, none⟩ = some (.int .i64 y6') := cell_of_row X b11 6 _ _ (0, 0) HYR.out
          have c14_7 : X.cell? ⟨b11, 7, none⟩ = some (.int .i64 y7') := cell_of_row X b11 7 _ _ (0, 0) HYR.out
          have c14_8 : X.cell? ⟨b11, 8, none⟩ = some (.int .i64 y8') := cell_of_row X b11 8 _ _ (0, 0) HYR.out
          have c14_9 : X.cell? ⟨b11, 9, none⟩ = some (.int .i64 y9') := cell_of_row X b11 9 _ _ (0, 0) HYR.out
          have c14_10 : X.cell? ⟨b11, 10, none⟩ = some (.bool y10') := cell_of_row X b11 10 _ _ (0, 0) HYR.out
          have c14_11 : X.cell? ⟨bx, 0, none⟩ = some (.int .i64 y0') := cell_of_row X bx 0 _ _ (0, 0) HXR.out
          have c14_12 : X.cell? ⟨bx, 1, none⟩ = some (.int .i64 y1') := cell_of_row X bx 1 _ _ (0, 0) HXR.out
          have c14_13 : X.cell? ⟨bx, 2, none⟩ = some (.int .i64 y2') := cell_of_row X bx 2 _ _ (0, 0) HXR.out
          have c14_14 : X.cell? ⟨bx, 3, none⟩ = some (.int .i64 y3') := cell_of_row X bx 3 _ _ (0, 0) HXR.out
          have c14_15 : X.cell? ⟨bx, 4, none⟩ = some (.bool y4') := cell_of_row X bx 4 _ _ (0, 0) HXR.out
          have c14_16 : X.cell? ⟨bx, 5, none⟩ = some (.bool y5') := cell_of_row X bx 5 _ _ (0, 0) HXR.out
          have c14_17 : X.cell? ⟨bx, 6, none⟩ = some (.int .i64 y6') := cell_of_row X bx 6 _ _ (0, 0) HXR.out
          have c14_18 : X.cell? ⟨bx, 7, none⟩ = some (.int .i64 y7') := cell_of_row X bx 7 _ _ (0, 0) HXR.out
          have c14_19 : X.cell? ⟨bx, 8, none⟩ = some (.int .i64 y8') := cell_of_row X bx 8 _ _ (0, 0) HXR.out
          have c14_20 : X.cell? ⟨bx, 9, none⟩ = some (.int .i64 y9') := cell_of_row X bx 9 _ _ (0, 0) HXR.out
          have c14_21 : X.cell? ⟨bx, 10, none⟩ = some (.bool y10') := cell_of_row X bx 10 _ _ (0, 0) HXR.out
          have c14_22 : X.cell? ⟨a8, 0, none⟩ = some (.pointer (some ⟨qc, 0, none⟩)) := cell_stays (stepB HBB.out HXB.out) HC8.out
          have c14_23 : X.cell? ⟨qc, 0, none⟩ = some (.pointer (some ⟨bc, 0, none⟩)) := HKC.out
          have HS14 := Lib.hid (show ∀ w', Below X.heap.size X w' → (w'.cell? ⟨b11, 0, none⟩ = some (.int .i64 y0') ∧ w'.cell? ⟨b11, 1, none⟩ = some (.int .i64 y1') ∧ w'.cell? ⟨b11, 2, none⟩ = some (.int .i64 y2') ∧ w'.cell? ⟨b11, 3, none⟩ = some (.int .i64 y3') ∧ w'.cell? ⟨b11, 4, none⟩ = some (.bool y4') ∧ w'.cell? ⟨b11, 5, none⟩ = some (.bool y5') ∧ w'.cell? ⟨b11, 6, none⟩ = some (.int .i64 y6') ∧ w'.cell? ⟨b11, 7, none⟩ = some (.int .i64 y7') ∧ w'.cell? ⟨b11, 8, none⟩ = some (.int .i64 y8') ∧ w'.cell? ⟨b11, 9, none⟩ = some (.int .i64 y9') ∧ w'.cell? ⟨b11, 10, none⟩ = some (.bool y10') ∧ w'.cell? ⟨bx, 0, none⟩ = some (.int .i64 y0') ∧ w'.cell? ⟨bx, 1, none⟩ = some (.int .i64 y1') ∧ w'.cell? ⟨bx, 2, none⟩ = some (.int .i64 y2') ∧ w'.cell? ⟨bx, 3, none⟩ = some (.int .i64 y3') ∧ w'.cell? ⟨bx, 4, none⟩ = some (.bool y4') ∧ w'.cell? ⟨bx, 5, none⟩ = some (.bool y5') ∧ w'.cell? ⟨bx, 6, none⟩ = some (.int .i64 y6') ∧ w'.cell? ⟨bx, 7, none⟩ = some (.int .i64 y7') ∧ w'.cell? ⟨bx, 8, none⟩ = some (.int .i64 y8') ∧ w'.cell? ⟨bx, 9, none⟩ = some (.int .i64 y9') ∧ w'.cell? ⟨bx, 10, none⟩ = some (.bool y10') ∧ w'.cell? ⟨a8, 0, none⟩ = some (.pointer (some ⟨qc, 0, none⟩)) ∧ w'.cell? ⟨qc, 0, none⟩ = some (.pointer (some ⟨bc, 0, none⟩))) from fun w' h => ⟨cell_stays h c14_0, cell_stays h c14_1, cell_stays h c14_2, cell_stays h c14_3, cell_stays h c14_4, cell_stays h c14_5, cell_stays h c14_6, cell_stays h c14_7, cell_stays h c14_8, cell_stays h c14_9, cell_stays h c14_10, cell_stays h c14_11, cell_stays h c14_12, cell_stays h c14_13, cell_stays h c14_14, cell_stays h c14_15, cell_stays h c14_16, cell_stays h c14_17, cell_stays h c14_18, cell_stays h c14_19, cell_stays h c14_20, cell_stays h c14_21, cell_stays h c14_22, cell_stays h c14_23⟩)
          clear c14_0 c14_1 c14_2 c14_3 c14_4 c14_5 c14_6 c14_7 c14_8 c14_9 c14_10 c14_11 c14_12 c14_13 c14_14 c14_15 c14_16 c14_17 c14_18 c14_19 c14_20 c14_21 c14_22 c14_23
          gi_wp2
          refine wpIn_region_any (by kernel_rfl) ?_
          change wpAnyIn _ _ _ _ _ _ _ _ _ (World.drew X)
          refine anyS.any (S := (fun w' => w'.cell? ⟨b11, 0, none⟩ = some (.int .i64 y0') ∧ w'.cell? ⟨b11, 1, none⟩ = some (.int .i64 y1') ∧ w'.cell? ⟨b11, 2, none⟩ = some (.int .i64 y2') ∧ w'.cell? ⟨b11, 3, none⟩ = some (.int .i64 y3') ∧ w'.cell? ⟨b11, 4, none⟩ = some (.bool y4') ∧ w'.cell? ⟨b11, 5, none⟩ = some (.bool y5') ∧ w'.cell? ⟨b11, 6, none⟩ = some (.int .i64 y6') ∧ w'.cell? ⟨b11, 7, none⟩ = some (.int .i64 y7') ∧ w'.cell? ⟨b11, 8, none⟩ = some (.int .i64 y8') ∧ w'.cell? ⟨b11, 9, none⟩ = some (.int .i64 y9') ∧ w'.cell? ⟨b11, 10, none⟩ = some (.bool y10') ∧ w'.cell? ⟨bx, 0, none⟩ = some (.int .i64 y0') ∧ w'.cell? ⟨bx, 1, none⟩ = some (.int .i64 y1') ∧ w'.cell? ⟨bx, 2, none⟩ = some (.int .i64 y2') ∧ w'.cell? ⟨bx, 3, none⟩ = some (.int .i64 y3') ∧ w'.cell? ⟨bx, 4, none⟩ = some (.bool y4') ∧ w'.cell? ⟨bx, 5, none⟩ = some (.bool y5') ∧ w'.cell? ⟨bx, 6, none⟩ = some (.int .i64 y6') ∧ w'.cell? ⟨bx, 7, none⟩ = some (.int .i64 y7') ∧ w'.cell? ⟨bx, 8, none⟩ = some (.int .i64 y8') ∧ w'.cell? ⟨bx, 9, none⟩ = some (.int .i64 y9') ∧ w'.cell? ⟨bx, 10, none⟩ = some (.bool y10') ∧ w'.cell? ⟨a8, 0, none⟩ = some (.pointer (some ⟨qc, 0, none⟩)) ∧ w'.cell? ⟨qc, 0, none⟩ = some (.pointer (some ⟨bc, 0, none⟩)))) ?_
          refine anyS_take (i := 0) (v := ?_) (by kernel_rfl) rfl (by kernel_rfl) (by kernel_rfl) (by kernel_rfl) (fun _ _ _ h => h) (by kernel_rfl) (fun _ => by kernel_rfl) ?_ ?_
          rotate_left
          · intro w' hS
            obtain ⟨s0, s1, s2, s3, s4, s5, s6, s7, s8, s9, s10, s11, s12, s13, s14, s15, s16, s17, s18, s19, s20, s21, s22, s23⟩ := hS
            go_simp
            try with_reducible rfl
          refine anyS_take (i := 1) (v := ?_) (by kernel_rfl) rfl (by kernel_rfl) (by kernel_rfl) (by kernel_rfl) (fun _ _ _ h => h) (by kernel_rfl) (fun _ => by kernel_rfl) ?_ ?_
          rotate_left
          · intro w' hS
            obtain ⟨s0, s1, s2, s3, s4, s5, s6, s7, s8, s9, s10, s11, s12, s13, s14, s15, s16, s17, s18, s19, s20, s21, s22, s23⟩ := hS
            go_simp
            try with_reducible rfl
          refine anyS_take (i := 2) (v := ?_) (by kernel_rfl) rfl (by kernel_rfl) (by kernel_rfl) (by kernel_rfl) (fun _ _ _ h => h) (by kernel_rfl) (fun _ => by kernel_rfl) ?_ ?_
          rotate_left
          · intro w' hS
            obtain ⟨s0, s1, s2, s3, s4, s5, s6, s7, s8, s9, s10, s11, s12, s13, s14, s15, s16, s17, s18, s19, s20, s21, s22, s23⟩ := hS
            go_simp
            try with_reducible rfl
          refine anyS_one (i := 3) (by kernel_rfl) rfl (HS14.out _ (Below.refl X.heap.size X).drew) (fun K hK => ?_)
          go_simp
          refine hK _ _ ?_
          clear hK K
          refine anyS_one (i := 4) (by kernel_rfl) rfl (HS14.out _ (Below.refl X.heap.size X).drew) (fun K hK => ?_)
          go_simp
          refine hK _ _ ?_
          clear hK K
          refine anyS_take (i := 5) (v := ?_) (by kernel_rfl) rfl (by kernel_rfl) (by kernel_rfl) (by kernel_rfl) (fun _ _ _ h => h) (by kernel_rfl) (fun _ => by kernel_rfl) ?_ ?_
          rotate_left
          · intro w' hS
            obtain ⟨s0, s1, s2, s3, s4, s5, s6, s7, s8, s9, s10, s11, s12, s13, s14, s15, s16, s17, s18, s19, s20, s21, s22, s23⟩ := hS
            go_simp
            try with_reducible rfl
          refine anyS_take (i := 6) (v := ?_) (by kernel_rfl) rfl (by kernel_rfl) (by kernel_rfl) (by kernel_rfl) (fun _ _ _ h => h) (by kernel_rfl) (fun _ => by kernel_rfl) ?_ ?_
          rotate_left
          · intro w' hS
            obtain ⟨s0, s1, s2, s3, s4, s5, s6, s7, s8, s9, s10, s11, s12, s13, s14, s15, s16, s17, s18, s19, s20, s21, s22, s23⟩ := hS
            go_simp
            try with_reducible rfl
          refine anyS_one (i := 7) (by kernel_rfl) rfl (HS14.out _ (Below.refl X.heap.size X).drew) (fun K hK => ?_)
          go_simp
          refine hK _ _ ?_
          clear hK K
          refine anyS_take (i := 8) (v := ?_) (by kernel_rfl) rfl (by kernel_rfl) (by kernel_rfl) (by kernel_rfl) (fun _ _ _ h => h) (by kernel_rfl) (fun _ => by kernel_rfl) ?_ ?_
          rotate_left
          · intro w' hS
            obtain ⟨s0, s1, s2, s3, s4, s5, s6, s7, s8, s9, s10, s11, s12, s13, s14, s15, s16, s17, s18, s19, s20, s21, s22, s23⟩ := hS
            go_simp
            try with_reducible rfl
          refine anyS_take (i := 9) (v := ?_) (by kernel_rfl) rfl (by kernel_rfl) (by kernel_rfl) (by kernel_rfl) (fun _ _ _ h => h) (by kernel_rfl) (fun _ => by kernel_rfl) ?_ ?_
          rotate_left
          · intro w' hS
            obtain ⟨s0, s1, s2, s3, s4, s5, s6, s7, s8, s9, s10, s11, s12, s13, s14, s15, s16, s17, s18, s19, s20, s21, s22, s23⟩ := hS
            go_simp
            try with_reducible rfl
          refine anyS_take (i := 10) (v := ?_) (by kernel_rfl) rfl (by kernel_rfl) (by kernel_rfl) (by kernel_rfl) (fun _ _ _ h => h) (by kernel_rfl) (fun _ => by kernel_rfl) ?_ ?_
          rotate_left
          · intro w' hS
            obtain ⟨s0, s1, s2, s3, s4, s5, s6, s7, s8, s9, s10, s11, s12, s13, s14, s15, s16, s17, s18, s19, s20, s21, s22, s23⟩ := hS
            go_simp
            try with_reducible rfl
          have h2 := @neqgO
          have h3 := fun W => neqObj y0' y0' y1' y1' y2' y2' y3' y3' y6' y6' y7' y7' y8' y8' y9' y9' y4' y4' y5' y5' y10' y10' W
          refine anyS_one (i := 11) (by kernel_rfl) rfl (HS14.out _ (Below.refl X.heap.size X).drew) (fun K hK => ?_)
          go_simp
          refine hK _ _ ?_
          clear hK K
          clear h2 h3
          refine anyS_take (i := 12) (v := ?_) (by kernel_rfl) rfl (by kernel_rfl) (by kernel_rfl) (by kernel_rfl) (fun _ _ _ h => h) (by kernel_rfl) (fun _ => by kernel_rfl) ?_ ?_
          rotate_left
          · intro w' hS
            obtain ⟨s0, s1, s2, s3, s4, s5, s6, s7, s8, s9, s10, s11, s12, s13, s14, s15, s16, s17, s18, s19, s20, s21, s22, s23⟩ := hS
            go_simp
            try with_reducible rfl
          refine anyS_take (i := 13) (v := ?_) (by kernel_rfl) rfl (by kernel_rfl) (by kernel_rfl) (by kernel_rfl) (fun _ _ _ h => h) (by kernel_rfl) (fun _ => by kernel_rfl) ?_ ?_
          rotate_left
          · intro w' hS
            obtain ⟨s0, s1, s2, s3, s4, s5, s6, s7, s8, s9, s10, s11, s12, s13, s14, s15, s16, s17, s18, s19, s20, s21, s22, s23⟩ := hS
            go_simp
            try with_reducible rfl
          refine anyS_take (i := 14) (v := ?_) (by kernel_rfl) rfl (by kernel_rfl) (by kernel_rfl) (by kernel_rfl) (fun _ _ _ h => h) (by kernel_rfl) (fun _ => by kernel_rfl) ?_ ?_
          rotate_left
          · intro w' hS
            obtain ⟨s0, s1, s2, s3, s4, s5, s6, s7, s8, s9, s10, s11, s12, s13, s14, s15, s16, s17, s18, s19, s20, s21, s22, s23⟩ := hS
            go_simp
            try with_reducible rfl
          refine anyS_take (i := 15) (v := ?_) (by kernel_rfl) rfl (by kernel_rfl) (by kernel_rfl) (by kernel_rfl) (fun _ _ _ h => h) (by kernel_rfl) (fun _ => by kernel_rfl) ?_ ?_
          rotate_left
          · intro w' hS
            obtain ⟨s0, s1, s2, s3, s4, s5, s6, s7, s8, s9, s10, s11, s12, s13, s14, s15, s16, s17, s18, s19, s20, s21, s22, s23⟩ := hS
            go_simp
            try with_reducible rfl
          refine anyS_take (i := 16) (v := ?_) (by kernel_rfl) rfl (by kernel_rfl) (by kernel_rfl) (by kernel_rfl) (fun _ _ _ h => h) (by kernel_rfl) (fun _ => by kernel_rfl) ?_ ?_
          rotate_left
          · intro w' hS
            obtain ⟨s0, s1, s2, s3, s4, s5, s6, s7, s8, s9, s10, s11, s12, s13, s14, s15, s16, s17, s18, s19, s20, s21, s22, s23⟩ := hS
            go_simp
            try with_reducible rfl
          refine anyS_take (i := 17) (v := ?_) (by kernel_rfl) rfl (by kernel_rfl) (by kernel_rfl) (by kernel_rfl) (fun _ _ _ h => h) (by kernel_rfl) (fun _ => by kernel_rfl) ?_ ?_
          rotate_left
          · intro w' hS
            obtain ⟨s0, s1, s2, s3, s4, s5, s6, s7, s8, s9, s10, s11, s12, s13, s14, s15, s16, s17, s18, s19, s20, s21, s22, s23⟩ := hS
            go_simp
            try with_reducible rfl
          refine anyS_take (i := 18) (v := ?_) (by kernel_rfl) rfl (by kernel_rfl) (by kernel_rfl) (by kernel_rfl) (fun _ _ _ h => h) (by kernel_rfl) (fun _ => by kernel_rfl) ?_ ?_
          rotate_left
          · intro w' hS
            obtain ⟨s0, s1, s2, s3, s4, s5, s6, s7, s8, s9, s10, s11, s12, s13, s14, s15, s16, s17, s18, s19, s20, s21, s22, s23⟩ := hS
            go_simp
            try with_reducible rfl
          refine anyS_take (i := 19) (v := ?_) (by kernel_rfl) rfl (by kernel_rfl) (by kernel_rfl) (by kernel_rfl) (fun _ _ _ h => h) (by kernel_rfl) (fun _ => by kernel_rfl) ?_ ?_
          rotate_left
          · intro w' hS
            obtain ⟨s0, s1, s2, s3, s4, s5, s6, s7, s8, s9, s10, s11, s12, s13, s14, s15, s16, s17, s18, s19, s20, s21, s22, s23⟩ := hS
            go_simp
            try with_reducible rfl
          refine anyS_take (i := 20) (v := ?_) (by kernel_rfl) rfl (by kernel_rfl) (by kernel_rfl) (by kernel_rfl) (fun _ _ _ h => h) (by kernel_rfl) (fun _ => by kernel_rfl) ?_ ?_
          rotate_left
          · intro w' hS
            obtain ⟨s0, s1, s2, s3, s4, s5, s6, s7, s8, s9, s10, s11, s12, s13, s14, s15, s16, s17, s18, s19, s20, s21, s22, s23⟩ := hS
            go_simp
            try with_reducible rfl
          refine anyS_take (i := 21) (v := ?_) (by kernel_rfl) rfl (by kernel_rfl) (by kernel_rfl) (by kernel_rfl) (fun _ _ _ h => h) (by kernel_rfl) (fun _ => by kernel_rfl) ?_ ?_
          rotate_left
          · intro w' hS
            obtain ⟨s0, s1, s2, s3, s4, s5, s6, s7, s8, s9, s10, s11, s12, s13, s14, s15, s16, s17, s18, s19, s20, s21, s22, s23⟩ := hS
            go_simp
            try with_reducible rfl
          refine anyS_one (i := 22) (by kernel_rfl) rfl (HS14.out _ (Below.refl X.heap.size X).drew) (fun K hK => ?_)
          go_simp
          gi_wp2_with ((refine ⟨trivial, ?_⟩; gi_at_call 32; refine CallsIn.mono (F := Fence.wide) (callsIn_wide.2 (HDX.out _ (stepB (stepB HBB.out HXB.out) (Below.refl X.heap.size X).drew))) ?_; rintro e w8 ⟨rfl, hb8⟩; have HB8 := Lib.hid (stepB (Below.refl X.heap.size X).drew hb8); clear hb8; dsimp only))
          refine anyS_one (i := 23) (by kernel_rfl) rfl (HS14.out _ HB8.out) (fun K hK => ?_)
          go_simp
          refine hK _ _ ?_
          clear hK K
          refine anyS_take (i := 24) (v := ?_) (by kernel_rfl) rfl (by kernel_rfl) (by kernel_rfl) (by kernel_rfl) (fun _ _ _ h => h) (by kernel_rfl) (fun _ => by kernel_rfl) ?_ ?_
          rotate_left
          · intro w' hS
            obtain ⟨s0, s1, s2, s3, s4, s5, s6, s7, s8, s9, s10, s11, s12, s13, s14, s15, s16, s17, s18, s19, s20, s21, s22, s23⟩ := hS
            go_simp
            try with_reducible rfl
          refine anyS_done (by kernel_rfl) (HS14.out _ HB8.out) ?_ _
          have HB9 := Lib.hid (stepB HXB.out HB8.out)
          gi_wp2
          exact ⟨(KpP.of_below (fun _ => False) (fun _ => False) HB9.out).from (fun k e => e.elim), HKW.out.trans (KpP.of_below _ _ HB9.out), stepB HBI.out HB9.out⟩
    case done =>
      rintro D ys W9 hD hS hI hK
      have HI9 := Lib.hid (stepB HBR.out hI)
      have HM9 := Lib.hid hK
      have HX9 := Lib.hid (HXX.out.later HI9.out)
      have c79 := cell_stays HI9.out HC7.out
      have hq6 : q6 < D := Nat.lt_of_lt_of_le HXX.out.lt (Nat.le_trans HBR.out.size hD)
      have HDQ := Lib.hid (show q6 < D ∧ w.heap.size ≤ q6 ∧ w.heap.size ≤ D from by have h1 := HSW.out; have h2 := HQ6.out; omega)
      have HW9 := Lib.hid (stepB HB0.out (stepB HWX.out HI9.out))
      have hdm : doomT (runB B) (-1) = false := by
        unfold doomT
        rw [show lostT (runB B).T (-1) = true from by unfold lostT inT; simp]
        rfl
      have HDO := Lib.hid (fun (w' : World) (hb : Below W9.heap.size W9 w') => by have h1 := doomed_any (HFX.out.bd.later (stepB HI9.out hb)) (-1); rw [hdm, HFX.out.hq] at h1; exact h1)
      have HSN := Lib.hid (fun (w' : World) => stable_nil w')
      have HDN := Lib.hid (fun (w' : World) => doomed_nil 0 w')
      have HRN := Lib.hid (fun (w' : World) (b1 : Nat) => run_none (p := none) (q := some ⟨b1, 0, none⟩) (.inl rfl) 0 w')
      have HRM := Lib.hid (fun (w' : World) => run_none (p := some ⟨q, 0, none⟩) (q := none) (.inr rfl) 0 w')
      clear hD hS hI hK hq6 hdm HSEQ HFX HGT HHS HDD HI9 HBR HXX HC7 HC8 HWX
      go_wp2_with fail
      refine (HNK.out W9).mono ?_
      rintro e w4 ⟨b1, k1, rfl, _, hb4⟩
      dsimp only
      go_wp2_with fail
      refine (HRN.out w4 b1).mono ?_
      rintro e w5 ⟨rfl, hb5⟩
      have h5 := below_alloc2 (stepB hb4 hb5) (.cells #[.slice none 0 0, .slice none 0 0, .int .i64 0] 54)
      have a5 := cell_of_row _ w5.heap.size 2 _ _ (0, 0) (heap_alloc_new w5 (.cells #[.slice none 0 0, .slice none 0 0, .int .i64 0] 54))
      have c75 := cell_stays h5 c79
      have H5 := Lib.hid h5
      clear hb4 hb5 h5
      dsimp only
      go_wp2_with fail
      refine (HRM.out _).mono ?_
      rintro e w6 ⟨rfl, hb6⟩
      have h6 := below_alloc2 (stepB H5.out hb6) (.cells #[.slice none 0 0, .slice none 0 0, .int .i64 0] 54)
      have a55 := cell_stays (below_alloc2 hb6 (.cells #[.slice none 0 0, .slice none 0 0, .int .i64 0] 54)) a5
      have a6 := cell_of_row _ w6.heap.size 2 _ _ (0, 0) (heap_alloc_new w6 (.cells #[.slice none 0 0, .slice none 0 0, .int .i64 0] 54))
      have H6 := Lib.hid h6
      clear hb6 h6 a5 c75 H5
      dsimp only
      go_wp2_with fail
      refine (HSN.out _).mono ?_
      rintro e w7 ⟨rfl, hb7⟩
      have H7 := Lib.hid (stepB H6.out hb7)
      clear hb7 a55 a6 H6
      dsimp only
      go_wp2_with fail
      refine (HDN.out w7).mono ?_
      rintro e w8 ⟨rfl, e8⟩
      rw [e8]
      clear e8 w8
      have c77 := cell_stays H7.out c79
      dsimp only
      go_wp2_with fail
      refine (HDO.out w7 H7.out).mono ?_
      rintro e w10 ⟨rfl, hb8⟩
      have HE := Lib.hid (stepB H7.out hb8)
      have HX := Lib.hid (HX9.out.later HE.out)
      have k6 := HX.out.cell
      have f6 := HX.out.frozen
      have HP : Hid (HdAt (w10.setCell ⟨q6, 0, none⟩ (.bool true)) q6 (.bool true) ∧ Below w.heap.size w (w10.setCell ⟨q6, 0, none⟩ (.bool true)) ∧ (w10.setCell ⟨q6, 0, none⟩ (.bool true)).heap[D]? = some (.deferred (some []))) := Lib.hid ⟨HX.out.set _, (stepB HW9.out HE.out).setCell HDQ.out.2.1 _, (heap_setCell_other _ ⟨q6, 0, none⟩ D _ (by have := HDQ.out; show D ≠ q6; omega)).trans ((HE.out.block _ (Array.getElem?_eq_some_iff.1 HM9.out).1).trans HM9.out)⟩
      clear hb8
      dsimp only
      go_wp2
      refine leaves_marksO (B := w.heap.size) [D] _ (by simp) (fun D' hD' => by obtain rfl := List.mem_singleton.1 hD'; exact HDQ.out.2.2) (fun D' hD' => by obtain rfl := List.mem_singleton.1 hD'; exact HP.out.2.2) (fun W10 hb9 hc9 => ?_)
      exact ⟨_, results_c6 rfl rfl (by obtain ⟨t, h⟩ := HP.out.1; exact ⟨t, hc9 _ _ h rfl⟩), rfl, HP.out.2.1.trans hb9⟩
end Go.Proofs.YtdlkdilgjmmlaaaGreat
