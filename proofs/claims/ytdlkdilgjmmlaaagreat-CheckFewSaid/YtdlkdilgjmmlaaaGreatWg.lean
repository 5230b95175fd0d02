/- Checks (layer 14: Run): one round at most does something. -/
import Derived.Test.YtdlkdilgjmmlaaaGreatWf
import Derived.Deep.RegionLaw
namespace Go.Proofs.YtdlkdilgjmmlaaaGreat
open Go.RowKit Go.Maps
attribute [local go_sem] Oper.semAt_some

/-- The append of numbers, as one step of a region that draws. -/
theorem step_append_ints {ops : Array Oper} {o : Oper} {a : Act} {w : World} {K : Act → World → Prop} {Q : Exit → Act → World → Prop} {E : Prop} (hgd : o.guard = none) (s x : Operand)
    (hop : o.op = .call { callee := .builtin .append, args := #[s, x], argTypes := #[24, 24] }) (hty : o.type = 24) (base : Nat) (v : Value) (n : Nat) (xs : List Value) (hs : a.eval s = v)
    (hown : w.ownsRow base 3 1 v n xs) (xa : Option Addr) (xn xc : Nat) (l : List Int) (hx : a.eval x = .slice xa xn xc) (hn : xn = l.length) (ht : IntsAt w (.slice xa xn xc) l) (h1 : n + l.length ≤ 1000) (hbase : base ≤ w.heap.size)
    (hK : ∀ v' w', w'.ownsRow base 3 1 v' (n + l.length) (xs ++ intsV l) → w.grownBy w' v.ownBlock → (v'.ownBlock = v.ownBlock ∨ v'.ownBlock = some w.heap.size) → K (a.put o.dst v') w') :
    if Region.wanted o (yielded ops a.tmps) = true then Oper.wp Tryz.prog o a w K Q else E := by
  have hw : Region.wanted o (yielded ops a.tmps) = true := by simp [Region.wanted, hgd]
  rw [if_pos hw]
  subst hn
  obtain ⟨v', w', hrun, h2, h3, h4⟩ := append_ints w base v n xs hown xa xc l ht h1 hbase
  unfold Oper.wp
  simp [execOp, hop, resolve, invoke, builtin, hs, hx, hty, hrun, Result.andThen]
  exact hK v' w' h2 h3 h4
theorem BothAt.board {w w' : World} {lo lo' b : Nat} {g g2 : GhostB} {gk : Option Nat} {B B2 : BoardL} {L : List EntL} (h : BothAt w lo lo' g b gk B L) (hb : BoardAt w' lo g2 B2) (ht : TurnedO w w' g.own g2.own) : BothAt w' lo lo' g2 b gk B2 L ∧ TurnedO w w' (own2 g b gk) (own2 g2 b gk) :=
  ⟨⟨hb, h.sk.farO ht h.ap, apart_o ht h.ap (fun _ hk => h.sk.ownLt hk)⟩, ht.left (c := ownK b gk)⟩
theorem own_ne {w : World} {base q n : Nat} {v : Value} {xs : List Value} {C : Array Value} (h : w.ownsRow base 3 1 v n xs) (h7 : w.heap[q]? = some (.cells C 54 (0, 0))) : ∀ k, v.ownBlock = some k → k ≠ q := fun _ e hk => by
  subst hk
  rcases h.2 with ⟨rfl, _⟩ | ⟨g', cap, cur, rfl, _, hg, _⟩
  · cases e
  · simp [Value.ownBlock] at e
    subst e
    rw [hg] at h7
    simp at h7
theorem rep0 {W : World} {b : Nat} {v0 v1 v2 : Value} {T : TypeId} (u : Value) (h : W.heap[b]? = some (.cells #[v0, v1, v2] T (0, 0))) : (W.setCell ⟨b, 0, none⟩ u).heap[b]? = some (.cells #[u, v1, v2] T (0, 0)) := by
  rw [heap_setCell_same W b 0 _ _ u h]
  simp
theorem rep1 {W : World} {b : Nat} {v0 v1 v2 : Value} {T : TypeId} (u : Value) (h : W.heap[b]? = some (.cells #[v0, v1, v2] T (0, 0))) : (W.setCell ⟨b, 1, none⟩ u).heap[b]? = some (.cells #[v0, u, v2] T (0, 0)) := by
  rw [heap_setCell_same W b 1 _ _ u h]
  simp
theorem rep2 {W : World} {b : Nat} {v0 v1 v2 : Value} {T : TypeId} (u : Value) (h : W.heap[b]? = some (.cells #[v0, v1, v2] T (0, 0))) : (W.setCell ⟨b, 2, none⟩ u).heap[b]? = some (.cells #[v0, v1, u] T (0, 0)) := by
  rw [heap_setCell_same W b 2 _ _ u h]
  simp
/-- Run's state: the board, the stack, the report so far in its box (7), the result's box (6). -/
structure RunAt (w wr : World) (lo lo' : Nat) (g : GhostB) (b : Nat) (gk : Option Nat) (g1 : GhostB) (gk1 : Option Nat) (B : BoardL) (L : List EntL) (v1 v2 : Value) (D X : List Int) (n : Nat) (q6 q7 : Nat) : Prop where
  bo : BothAt wr lo lo' g1 b gk1 B L
  hq : g1.q = g.q
  tu : TurnedO w wr (own2 g b gk) (own2 g1 b gk1)
  f6 : w.heap.size ≤ q6 ∧ ¬own2 g1 b gk1 q6
  f7 : w.heap.size ≤ q7 ∧ ¬own2 g1 b gk1 q7
  ne : q6 ≠ q7
  r6 : wr.heap[q6]? = some (.cells #[.slice none 0 0, .slice none 0 0, .int .i64 0] 54 (0, 0))
  r7 : wr.heap[q7]? = some (.cells #[v1, v2, .int .i64 n] 54 (0, 0))
  d : RepAt wr w.heap.size (own2 g1 b gk1) v1 D
  x : RepAt wr w.heap.size (own2 g1 b gk1) v2 X
theorem RunAt.turn {w wr w4 : World} {lo lo' b q6 q7 n : Nat} {g g1 g2 : GhostB} {gk gk1 gk2 : Option Nat} {B B2 : BoardL} {L L2 : List EntL} {v1 v2 : Value} {D X : List Int} (h : RunAt w wr lo lo' g b gk g1 gk1 B L v1 v2 D X n q6 q7)
    (hb : BothAt w4 lo lo' g2 b gk2 B2 L2) (ht : TurnedO wr w4 (own2 g1 b gk1) (own2 g2 b gk2)) (hq : g2.q = g1.q) : RunAt w w4 lo lo' g b gk g2 gk2 B2 L2 v1 v2 D X n q6 q7 := by
  have h6 := (Array.getElem?_eq_some_iff.1 h.r6).1
  have h7 := (Array.getElem?_eq_some_iff.1 h.r7).1
  exact ⟨hb, hq.trans h.hq, h.tu.trans ht, ⟨h.f6.1, fun e => h.f6.2 (ht.own _ h6 e)⟩, ⟨h.f7.1, fun e => h.f7.2 (ht.own _ h7 e)⟩, h.ne, (ht.block _ h6 h.f6.2).trans h.r6, (ht.block _ h7 h.f7.2).trans h.r7, h.d.turn ht, h.x.turn ht⟩
theorem RunAt.grown {w wr w5 : World} {lo lo' b q6 q7 n : Nat} {g g1 : GhostB} {gk gk1 : Option Nat} {B : BoardL} {L : List EntL} {v1 v2 : Value} {D X : List Int} (h : RunAt w wr lo lo' g b gk g1 gk1 B L v1 v2 D X n q6 q7) (hg : wr.grownBy w5 none) : RunAt w w5 lo lo' g b gk g1 gk1 B L v1 v2 D X n q6 q7 := by
  have hb : Below wr.heap.size wr w5 := ⟨hg.os, hg.tape, hg.output, hg.size, fun k hk => hg.block k hk (by simp)⟩
  exact h.turn (h.bo.later hb) (TurnedO.of_below hb) rfl
theorem RunAt.set {w wr w' : World} {lo lo' b q6 q7 n n' : Nat} {g g1 : GhostB} {gk gk1 : Option Nat} {B : BoardL} {L : List EntL} {v1 v2 v1' v2' : Value} {D X D' X' : List Int} (h : RunAt w wr lo lo' g b gk g1 gk1 B L v1 v2 D X n q6 q7) {j : Nat} {u : Value}
    (hw : w' = wr.setCell ⟨q7, j, none⟩ u) (hr : w'.heap[q7]? = some (.cells #[v1', v2', .int .i64 n'] 54 (0, 0))) (hd : RepAt wr w.heap.size (own2 g1 b gk1) v1' D') (hx : RepAt wr w.heap.size (own2 g1 b gk1) v2' X') : RunAt w w' lo lo' g b gk g1 gk1 B L v1' v2' D' X' n' q6 q7 := by
  have hk : ∀ k, k ≠ q7 → w'.heap[k]? = wr.heap[k]? := fun k hk => by rw [hw]; exact heap_setCell_other _ ⟨q7, j, none⟩ k _ hk
  have hs : wr.heap.size ≤ w'.heap.size := by rw [hw]; simp
  have ho : ∀ k, own2 g1 b gk1 k → w'.heap[k]? = wr.heap[k]? := fun k e => hk k (fun e2 => h.f7.2 (by rw [← e2]; exact e))
  have ht := h.tu
  have hd' : ∀ k, v1'.ownBlock = some k → k ≠ q7 := own_ne hd.row h.r7
  have hx' : ∀ k, v2'.ownBlock = some k → k ≠ q7 := own_ne hx.row h.r7
  refine ⟨⟨h.bo.bd.kept hs (fun k e => ho k (.inl e)), h.bo.sk.kept (ho b (.inr (.inl rfl))) (fun k e => ho k (.inr (.inr e))), h.bo.ap⟩, h.hq, ⟨?_, ?_, ?_, Nat.le_trans ht.size hs, fun k h1 h2 => (hk k (fun e => by have := h.f7.1; omega)).trans (ht.block k h1 h2), ht.own⟩, h.f6, h.f7, h.ne, (hk q6 h.ne).trans h.r6, hr, ⟨own_keepS hd.row (fun k e => hk k (hd' k e)), hd.off⟩, ⟨own_keepS hx.row (fun k e => hk k (hx' k e)), hx.off⟩⟩
  · rw [hw]; exact ht.os
  · rw [hw]; exact ht.tape
  · rw [hw]; exact ht.output
def runB (B : BoardL) : BoardL := if stableT B then B else roundB B
def runK (B : BoardL) (active : Int) (L : List EntL) : List EntL := if stableT B then L else roundK B active L
def runD (B : BoardL) : List Int := if stableT B then [] else diesL B.S
def runX (B : BoardL) : List Int := if stableT B then [] else lostsL B
def runN (B : BoardL) : Nat := if stableT B then 0 else 1
def RetRun (w : World) (lo lo' : Nat) (g : GhostB) (b : Nat) (gk : Option Nat) (B : BoardL) (L : List EntL) (active : Int) (e : Ending) (w' : World) : Prop :=
  ∃ v1 v2 g' gk', e = .returned (.agg #[v1, v2, .int .i64 (runN B)]) ∧ BothAt w' lo lo' g' b gk' (runB B) (runK B active L) ∧ g'.q = g.q ∧ TurnedO w w' (own2 g b gk) (own2 g' b gk') ∧ RepAt w' w.heap.size (own2 g' b gk') v1 (runD B) ∧ RepAt w' w.heap.size (own2 g' b gk') v2 (runX B)
theorem results_run {fn : Func} {tmps : Array Value} {W : World} {b : Nat} {v1 v2 v3 : Value} (h : fn.results = #[.cell 6 54]) (h2 : tmps.getD 6 undef = .pointer (some ⟨b, 0, none⟩)) (hb : W.heap[b]? = some (.cells #[v1, v2, v3] 54 (0, 0))) :
    (results fn tmps).run Tryz.prog W = .ok (.agg #[v1, v2, v3]) W := by
  have h0 := cell_of_row W b 0 _ _ (0, 0) hb
  have h1 := cell_of_row W b 1 _ _ (0, 0) hb
  have h3 := cell_of_row W b 2 _ _ (0, 0) hb
  simp only [Array.getD_eq_getD_getElem?] at h2
  simp [results, h, go_sem, h2, h0, h1, h3]
/-- The report goes into the result's box. -/
theorem RunAt.leave {w wr : World} {lo lo' b q6 q7 n : Nat} {g g1 : GhostB} {gk gk1 : Option Nat} {B : BoardL} {L : List EntL} {v1 v2 : Value} {D X : List Int} (h : RunAt w wr lo lo' g b gk g1 gk1 B L v1 v2 D X n q6 q7) :
    BothAt (((wr.setCell ⟨q6, 0, none⟩ v1).setCell ⟨q6, 1, none⟩ v2).setCell ⟨q6, 2, none⟩ (.int .i64 n)) lo lo' g1 b gk1 B L ∧ TurnedO w (((wr.setCell ⟨q6, 0, none⟩ v1).setCell ⟨q6, 1, none⟩ v2).setCell ⟨q6, 2, none⟩ (.int .i64 n)) (own2 g b gk) (own2 g1 b gk1) ∧
    RepAt (((wr.setCell ⟨q6, 0, none⟩ v1).setCell ⟨q6, 1, none⟩ v2).setCell ⟨q6, 2, none⟩ (.int .i64 n)) w.heap.size (own2 g1 b gk1) v1 D ∧ RepAt (((wr.setCell ⟨q6, 0, none⟩ v1).setCell ⟨q6, 1, none⟩ v2).setCell ⟨q6, 2, none⟩ (.int .i64 n)) w.heap.size (own2 g1 b gk1) v2 X ∧
    (((wr.setCell ⟨q6, 0, none⟩ v1).setCell ⟨q6, 1, none⟩ v2).setCell ⟨q6, 2, none⟩ (.int .i64 n)).heap[q6]? = some (.cells #[v1, v2, .int .i64 n] 54 (0, 0)) := by
  have hk : ∀ k, k ≠ q6 → (((wr.setCell ⟨q6, 0, none⟩ v1).setCell ⟨q6, 1, none⟩ v2).setCell ⟨q6, 2, none⟩ (.int .i64 n)).heap[k]? = wr.heap[k]? := fun k hk => by rw [heap_setCell_other _ ⟨q6, 2, none⟩ k _ hk, heap_setCell_other _ ⟨q6, 1, none⟩ k _ hk, heap_setCell_other _ ⟨q6, 0, none⟩ k _ hk]
  have hrow := rep2 (.int .i64 n) (rep1 v2 (rep0 v1 h.r6))
  obtain ⟨W, hW⟩ : ∃ W, (((wr.setCell ⟨q6, 0, none⟩ v1).setCell ⟨q6, 1, none⟩ v2).setCell ⟨q6, 2, none⟩ (.int .i64 n)) = W := ⟨_, rfl⟩
  have hs : W.heap.size = wr.heap.size := by rw [← hW]; simp
  have hos : W.os = wr.os ∧ W.tape = wr.tape ∧ W.output = wr.output := by rw [← hW]; exact ⟨rfl, rfl, rfl⟩
  rw [hW] at hk hrow ⊢
  have ho : ∀ k, own2 g1 b gk1 k → W.heap[k]? = wr.heap[k]? := fun k e => hk k (fun e2 => h.f6.2 (by rw [← e2]; exact e))
  have ht := h.tu
  have hd' : ∀ k, v1.ownBlock = some k → k ≠ q6 := own_ne h.d.row h.r6
  have hx' : ∀ k, v2.ownBlock = some k → k ≠ q6 := own_ne h.x.row h.r6
  exact ⟨⟨h.bo.bd.kept (by omega) (fun k e => ho k (.inl e)), h.bo.sk.kept (ho b (.inr (.inl rfl))) (fun k e => ho k (.inr (.inr e))), h.bo.ap⟩, ⟨hos.1.trans ht.os, hos.2.1.trans ht.tape, hos.2.2.trans ht.output, by have := ht.size; omega, fun k h1 h2 => (hk k (fun e => by have := h.f6.1; omega)).trans (ht.block k h1 h2), ht.own⟩,
    ⟨own_keepS h.d.row (fun k e => hk k (hd' k e)), h.d.off⟩, ⟨own_keepS h.x.row (fun k e => hk k (hx' k e)), h.x.off⟩, hrow⟩
theorem RepAt.push {w4 w5 : World} {base : Nat} {own : Nat → Prop} {v' : Value} {l : List Int} (hown : ∀ k, own k → k < w4.heap.size) (hr : w5.ownsRow base 3 1 v' (0 + l.length) ([] ++ intsV l)) (hn : v'.ownBlock = (Value.slice Option.none 0 0).ownBlock ∨ v'.ownBlock = some w4.heap.size) : RepAt w5 base own v' l := by
  refine ⟨by simpa using hr, fun k e hk => ?_⟩
  rcases hn with hn | hn
  · rw [hn] at e
    cases e
  · rw [hn] at e
    have := hown k hk
    simp at e
    omega
def stB (B : BoardL) (p : Nat) : BoardL := if p = 0 then B else roundB B
def stK (B : BoardL) (active : Int) (L : List EntL) (p : Nat) : List EntL := if p = 0 then L else roundK B active L
set_option maxRecDepth 100000 in
set_option maxHeartbeats 4000000 in
theorem run_any {w : World} {lo lo' b : Nat} {g : GhostB} {gk : Option Nat} {B : BoardL} {L : List EntL} (h : BothAt w lo lo' g b gk B L) (hl : B.S.objs.length ≤ 800) (hL : L.length ≤ 8) (active : Int) :
    Calls Tryz.prog 25 #[.pointer (some ⟨g.q, 0, none⟩), .pointer (some ⟨b, 0, none⟩), .int .i64 active] w (RetRun w lo lo' g b gk B L active) := by
  have HH := Lib.hid h
  have HLO := Lib.hid hl
  have HL8 := Lib.hid hL
  have HSR := Lib.hid (stable_round h.bd.wf h.bd.st.n1)
  have HDL := Lib.hid (show (diesL B.S).length ≤ 800 from Nat.le_trans (dies_len h.bd.wf h.bd.st.n1) hl)
  have HXL := Lib.hid (show (lostsL B).length ≤ 4 from Nat.le_trans (upTo_len _ _) h.bd.tm.n2)
  obtain ⟨q, hq⟩ : ∃ q, g.q = q := ⟨_, rfl⟩
  have HQ := Lib.hid hq
  clear h hl hL
  unfold RetRun
  rw [hq]
  clear hq
  refine (callsIn_wide (n := 9)).1 ?_
  refine callsIn_of_wp_marks Tryz.func25 rfl trivial ?_ rfl
  simp only [Tryz.ntmps25, List.size_toArray, List.length_cons, List.length_nil, Nat.reduceAdd, Nat.reduceSub, Array.replicate_succ, Array.replicate_zero, List.push_toArray, List.append_toArray, List.nil_append, List.cons_append]
  refine wpIn_wide.2 ?_
  have hb0 := below_alloc2 (below_new w (.cells #[.slice none 0 0, .slice none 0 0, .int .i64 0] 54)) (.cells #[.slice none 0 0, .slice none 0 0, .int .i64 0] 54)
  have HST : Hid (∀ w2, (w.alloc (.cells #[.slice none 0 0, .slice none 0 0, .int .i64 0] 54)).alloc (.cells #[.slice none 0 0, .slice none 0 0, .int .i64 0] 54) = w2 → RunAt w w2 lo lo' g b gk g gk B L (.slice none 0 0) (.slice none 0 0) [] [] 0 w.heap.size (w.heap.size + 1)) := Lib.hid (fun w2 e => by
    subst e
    have hlt : ∀ k, own2 g b gk k → k < w.heap.size := fun k hk => HH.out.ownLt hk
    refine ⟨HH.out.later hb0, rfl, TurnedO.of_below hb0, ⟨Nat.le_refl _, fun e => by have := hlt _ e; omega⟩, ⟨Nat.le_succ _, fun e => by have := hlt _ e; omega⟩, by omega, ?_, heap_two _ _ _, RepAt.none _ _ _, RepAt.none _ _ _⟩
    exact ((below_new (w.alloc (.cells #[.slice none 0 0, .slice none 0 0, .int .i64 0] 54)) (.cells #[.slice none 0 0, .slice none 0 0, .int .i64 0] 54)).block _ (by simp)).trans (heap_alloc_new w (.cells #[.slice none 0 0, .slice none 0 0, .int .i64 0] 54)))
  go_wp2
  obtain ⟨W2, hW2⟩ : ∃ W2, (w.alloc (.cells #[.slice none 0 0, .slice none 0 0, .int .i64 0] 54)).alloc (.cells #[.slice none 0 0, .slice none 0 0, .int .i64 0] 54) = W2 := ⟨_, rfl⟩
  have HR2 := Lib.hid (HST.out W2 hW2)
  obtain ⟨q6, hq6⟩ : ∃ q6, w.heap.size = q6 := ⟨_, rfl⟩
  obtain ⟨q7, hq7⟩ : ∃ q7, w.heap.size + 1 = q7 := ⟨_, rfl⟩
  try rw [hW2]
  try simp only [World.size_alloc]
  rw [hq7, hq6] at HR2
  try rw [hq7]
  try rw [hq6]
  clear HST hW2 hb0 hq6 hq7
  go_loopw [15] (fun i wr => ∃ (p : Nat) (v1 v2 : Value) (g1 : GhostB) (gk1 : Option Nat) (D X : List Int), p ≤ 1 ∧ i = .int .i64 p ∧ Hid (RunAt w wr lo lo' g b gk g1 gk1 (stB B p) (stK B active L p) v1 v2 D X p q6 q7) ∧ Hid ((p = 0 → D = [] ∧ X = [] ∧ v1 = .slice none 0 0 ∧ v2 = .slice none 0 0) ∧ (p = 1 → stableT B = false ∧ D = diesL B.S ∧ X = lostsL B))) (fun i _ => 60 - (intOf i).toNat)
  case atStart => exact ⟨0, .slice none 0 0, .slice none 0 0, g, gk, [], [], by omega, rfl, HR2, Lib.hid ⟨fun _ => ⟨rfl, rfl, rfl, rfl⟩, fun e => by omega⟩⟩
  case round =>
    obtain ⟨p, v1, v2, g1, gk1, D, X, hp, rfl, HR, HP⟩ := hrel
    have d60 : decide ((p : Int) < 60) = true := decide_eq_true (by omega)
    obtain ⟨va, vc, rfl⟩ := own_form1 HR.out.d.row
    obtain ⟨ua, uc, rfl⟩ := own_form1 HR.out.x.row
    have HSB := Lib.hid (stable_any HR.out.bo.bd)
    rw [HR.out.hq, HQ.out] at HSB
    cases hz : stableT (stB B p) with
    | true =>
      have HV := Lib.hid (show stB B p = runB B ∧ stK B active L p = runK B active L ∧ D = runD B ∧ X = runX B ∧ p = runN B from by
        unfold runB runK runD runX runN
        rcases (show p = 0 ∨ p = 1 by omega) with rfl | rfl
        · obtain ⟨h1, h2, _⟩ := HP.out.1 rfl
          rw [show stableT B = true from hz]
          exact ⟨rfl, rfl, h1, h2, rfl⟩
        · obtain ⟨h0, h1, h2⟩ := HP.out.2 rfl
          rw [h0]
          exact ⟨rfl, rfl, h1, h2, rfl⟩)
      rw [hz] at HSB
      clear hz
      go_wp2_with fail
      refine HSB.out.mono ?_
      rintro e w4 ⟨rfl, hb4⟩
      have HRN := Lib.hid (HR.out.turn (HR.out.bo.later hb4) (TurnedO.of_below hb4) rfl)
      clear hb4
      have HR9 := Lib.hid (HRN.out.leave)
      have r70 := cell_of_row _ _ 0 _ _ (0, 0) HRN.out.r7
      have r71 := cell_of_row _ _ 1 _ _ (0, 0) HRN.out.r7
      have r72 := cell_of_row _ _ 2 _ _ (0, 0) HRN.out.r7
      have r60 := cell_of_row _ _ 0 _ _ (0, 0) HRN.out.r6
      have r61 := cell_of_row _ _ 1 _ _ (0, 0) HRN.out.r6
      have r62 := cell_of_row _ _ 2 _ _ (0, 0) HRN.out.r6
      have f60 := frozen_of_row _ q6 0 _ _ HRN.out.r6
      have f61 := frozen_of_row _ q6 1 _ _ HRN.out.r6
      have f62 := frozen_of_row _ q6 2 _ _ HRN.out.r6
      go_wp2
      refine leaves_marksO (B := (((w4.setCell ⟨q6, 0, none⟩ (.slice va D.length vc)).setCell ⟨q6, 1, none⟩ (.slice ua X.length uc)).setCell ⟨q6, 2, none⟩ (.int .i64 p)).heap.size) [] _ (by simp) (fun D' hD' => by cases hD') (fun D' hD' => by cases hD') (fun W9 hb9 hc9 => ?_)
      refine ⟨_, results_run rfl rfl (hc9 _ _ HR9.out.2.2.2.2 rfl), _, _, g1, gk1, by rw [HV.out.2.2.2.2], ?_⟩
      rw [← HV.out.1, ← HV.out.2.1, ← HV.out.2.2.1, ← HV.out.2.2.2.1]
      exact ⟨HR9.out.1.later hb9, HR.out.hq.trans HQ.out, HR9.out.2.1.trans (TurnedO.of_below hb9), HR9.out.2.2.1.turn (TurnedO.of_below hb9), HR9.out.2.2.2.1.turn (TurnedO.of_below hb9)⟩
    | false =>
      obtain rfl : p = 0 := by
        rcases (show p = 0 ∨ p = 1 by omega) with rfl | rfl
        · rfl
        · rw [show stB B 1 = roundB B from rfl, HSR.out] at hz
          cases hz
      obtain ⟨hD0, hX0, hv1, hv2⟩ := HP.out.1 rfl
      subst hD0 hX0
      simp at hv1 hv2
      obtain ⟨rfl, rfl⟩ := hv1
      obtain ⟨rfl, rfl⟩ := hv2
      have HNS := Lib.hid (show stableT B = false from hz)
      rw [hz] at HSB
      clear hz hp
      have HR0 : Hid (RunAt w wr lo lo' g b gk g1 gk1 B L (.slice none 0 0) (.slice none 0 0) [] [] 0 q6 q7) := HR
      clear HR HP
      go_wp2_with fail
      refine HSB.out.mono ?_
      rintro e w4 ⟨rfl, hb4⟩
      have HR4 := Lib.hid (HR0.out.turn (HR0.out.bo.later hb4) (TurnedO.of_below hb4) rfl)
      have HBU := Lib.hid (fun (w' : World) (hb : Below w4.heap.size w4 w') => bury_any (HR4.out.bo.later hb) HLO.out HL8.out active)
      rw [HR4.out.hq, HQ.out] at HBU
      obtain ⟨ds, hds⟩ : ∃ ds, diesL B.S = ds := ⟨_, rfl⟩
      have HDS := Lib.hid hds
      have hdl : ds.length ≤ 800 := by rw [← hds]; exact HDL.out
      have hdm : 0 + ds.length ≤ 1000 := by omega
      unfold RetBury at HBU
      rw [hds] at HBU
      clear hb4 hds HR0 HSB
      have c40 : w4.cell? ⟨q7, 0, none⟩ = some (.slice none 0 0) := cell_of_row w4 q7 0 _ _ (0, 0) HR4.out.r7
      have hsz4 : w.heap.size ≤ w4.heap.size := HR4.out.tu.size
      go_wp2
      refine wp_region_noPanic ?_
      go_region_law ((first
        | (go_simp; go_at_call 57; refine (HBU.out _ (below_drewN (Below.refl _ _) _)).mono ?_; rintro e w5 ⟨v5, g5, gk5, rfl, hbo5, hq5, ht5, hr5⟩; obtain ⟨ya, yc, rfl⟩ := own_form1 hr5.row; have HR5 := Lib.hid (HR4.out.turn hbo5 ((TurnedO.of_below (below_drewN (Below.refl _ _) _)).trans ht5) hq5); have c50 : w5.cell? ⟨q7, 0, none⟩ = some (.slice none 0 0) := cell_of_row w5 q7 0 _ _ (0, 0) HR5.out.r7; have hlo5 : w.heap.size ≤ w5.heap.size := HR5.out.tu.size; have HIN := Lib.hid (own_ints hr5.row); dsimp only)
        | (refine step_append_ints rfl _ _ rfl rfl w.heap.size (.slice none 0 0) 0 [] rfl (World.ownsRow_nil _ _ _ _) _ _ _ ds rfl rfl HIN.out hdm hlo5 ?_; intro v6 w6 hown6 hgrow6 hnew6; have HP6 := Lib.hid (RepAt.push (own := own2 g5 b gk5) (fun k hk => hbo5.ownLt hk) hown6 hnew6); obtain ⟨za, zc, rfl⟩ := own_form1 HP6.out.row; have HR6 := Lib.hid (HR5.out.grown hgrow6); have c60 : w6.cell? ⟨q7, 0, none⟩ = some (.slice none 0 0) := cell_of_row w6 q7 0 _ _ (0, 0) HR6.out.r7; have f60 := frozen_of_row w6 q7 0 _ _ HR6.out.r7)
        | (trace_state; fail "arm")))
      all_goals
        refine NoPanic.normal ?_
        have HR7 := Lib.hid (HR6.out.set (j := 0) (u := .slice za ds.length zc) rfl (rep0 _ HR6.out.r7) HP6.out HR6.out.x)
        obtain ⟨w7, hw7⟩ : ∃ w7, w6.setCell ⟨q7, 0, none⟩ (.slice za ds.length zc) = w7 := ⟨_, rfl⟩
        rw [hw7] at HR7 ⊢
        have HDF := Lib.hid (fun (w' : World) (hb : Below w7.heap.size w7 w') => defeat_any (HR7.out.bo.bd.later hb))
        rw [HR7.out.hq, HQ.out] at HDF
        unfold RetDef at HDF
        rw [losts_mid] at HDF
        obtain ⟨xs, hxs⟩ : ∃ xs, lostsL B = xs := ⟨_, rfl⟩
        have HXS := Lib.hid hxs
        have hxl : 0 + xs.length ≤ 1000 := by rw [← hxs]; have := HXL.out; omega
        rw [hxs] at HDF
        have c71 : w7.cell? ⟨q7, 1, none⟩ = some (.slice none 0 0) := cell_of_row w7 q7 1 _ _ (0, 0) HR7.out.r7
        clear hw7 hxs HR6 HP6 HR5 HIN c40 c50 c60 f60 hown6 hgrow6 hnew6 hbo5 hq5 ht5 hr5 hlo5 HBU HR4 hsz4
        go_wp2
        refine wp_region_noPanic ?_
        go_region_law ((first
          | (go_simp; go_at_call 58; refine (HDF.out _ (below_drewN (Below.refl _ _) _)).mono ?_; rintro e w8 ⟨v8, g8, rfl, hbd8, hq8, ht8, hr8⟩; obtain ⟨xa, xc, rfl⟩ := own_form1 hr8.row; have hbf := fun hb => BothAt.board (HR7.out.bo.later hb) hbd8 ht8; have hbo8 := hbf (below_drewN (Below.refl _ _) _); have HR8 := Lib.hid (HR7.out.turn hbo8.1 ((TurnedO.of_below (below_drewN (Below.refl _ _) _)).trans hbo8.2) hq8); have c81 : w8.cell? ⟨q7, 1, none⟩ = some (.slice none 0 0) := cell_of_row w8 q7 1 _ _ (0, 0) HR8.out.r7; have hlo8 : w.heap.size ≤ w8.heap.size := HR8.out.tu.size; have HIX := Lib.hid (own_ints hr8.row); dsimp only)
          | (refine step_append_ints rfl _ _ rfl rfl w.heap.size (.slice none 0 0) 0 [] rfl (World.ownsRow_nil _ _ _ _) _ _ _ xs rfl rfl HIX.out hxl hlo8 ?_; intro v9 w9 hown9 hgrow9 hnew9; have HP9 := Lib.hid (RepAt.push (own := own2 g8 b gk5) (fun k hk => HR8.out.bo.ownLt hk) hown9 hnew9); obtain ⟨ta, tc, rfl⟩ := own_form1 HP9.out.row; have HR9 := Lib.hid (HR8.out.grown hgrow9); have c91 : w9.cell? ⟨q7, 1, none⟩ = some (.slice none 0 0) := cell_of_row w9 q7 1 _ _ (0, 0) HR9.out.r7; have f91 := frozen_of_row w9 q7 1 _ _ HR9.out.r7)
          | (trace_state; fail "arm")))
        all_goals
          refine NoPanic.normal ?_
          have HRA := Lib.hid (HR9.out.set (j := 1) (u := .slice ta xs.length tc) rfl (rep1 _ HR9.out.r7) HR9.out.d HP9.out)
          obtain ⟨wA, hwA⟩ : ∃ wA, w9.setCell ⟨q7, 1, none⟩ (.slice ta xs.length tc) = wA := ⟨_, rfl⟩
          rw [hwA] at HRA ⊢
          have HWE := Lib.hid (wet_any HRA.out.bo.bd)
          rw [HRA.out.hq, HQ.out] at HWE
          clear hwA HR9 HP9 HR8 HIX c71 c81 c91 f91 hown9 hgrow9 hnew9 hbd8 hq8 ht8 hr8 hlo8 hbf hbo8 HDF HR7
          go_wp2_with fail
          refine HWE.out.mono ?_
          rintro e wB ⟨rfl, gB, hbdB, htB, hqB⟩
          have hboB := HRA.out.bo.board hbdB htB.o
          have HRB := Lib.hid (HRA.out.turn hboB.1 hboB.2 hqB)
          have cB2 : wB.cell? ⟨q7, 2, none⟩ = some (.int .i64 0) := cell_of_row wB q7 2 _ _ (0, 0) HRB.out.r7
          have fB2 := frozen_of_row wB q7 2 _ _ HRB.out.r7
          clear hbdB htB hqB hboB HWE
          have HRC := Lib.hid (HRB.out.set (n' := 1) (j := 2) (u := .int .i64 1) rfl (rep2 _ HRB.out.r7) HRB.out.d HRB.out.x)
          go_wp2
          go_roundw
          case rel =>
            refine ⟨1, .slice za ds.length zc, .slice ta xs.length tc, gB, gk5, ds, xs, by omega, by go_num, ?_, Lib.hid ⟨fun e => by omega, fun _ => ⟨HNS.out, HDS.out.symm, HXS.out.symm⟩⟩⟩
            show Hid (RunAt w _ lo lo' g b gk gB gk5 (roundB B) _ _ _ ds xs 1 q6 q7)
            unfold roundB
            rw [HXS.out]
            exact HRC
          case measure => simp [intOf]
end Go.Proofs.YtdlkdilgjmmlaaaGreat
