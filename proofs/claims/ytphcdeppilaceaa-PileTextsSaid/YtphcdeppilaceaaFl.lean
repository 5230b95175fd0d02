/- What the law PilePlays (layer 5) holds: two piles, two lists in boxes, a call's box; how a step of the law changes them. -/
import Derived.Test.YtphcdeppilaceaaFh
import Derived.Test.YtphcdeppilaceaaFk
namespace Go.Proofs.Ytphcdeppilaceaa
open Go.RowKit

theorem PileAt.mono {w : World} {lo lo' b : Nat} {g : Option Nat} {L : List Int} (h : PileAt w lo b g L) (hl : lo' ≤ lo) : PileAt w lo' b g L := by
  obtain ⟨v, h1, h2, h3, h4⟩ := h
  exact ⟨v, h1, h2, Nat.le_trans hl h3, World.ownsRow.mono h4 hl⟩
/-- A slice has room for what it has. -/
def CapOk (v : Value) : Prop := ∀ xa n xc, v = .slice xa n xc → n ≤ xc
theorem own_cap {w : World} {base n : Nat} {t : TypeId} {v : Value} {xs : List Value} (h : w.ownsRow base t 1 v n xs) : CapOk v := by
  intro xa m xc e
  rcases h.2 with ⟨rfl, _⟩ | ⟨g, cap, cur, rfl, _, _, hn, _⟩
  · injection e with _ e1 e2; omega
  · injection e with _ e1 e2; omega
/-- A slice's row is none of the blocks that change. -/
def Free (w : World) (v : Value) (bp : Nat) (gp : Option Nat) (bq : Nat) (gq : Option Nat) (ca cb : Nat) : Prop := CapOk v ∧ ∀ k, v.ownBlock = some k → k < w.heap.size ∧ k ≠ bp ∧ gp ≠ some k ∧ k ≠ bq ∧ gq ≠ some k ∧ k ≠ ca ∧ k ≠ cb
def Fix (lo bp : Nat) (gp : Option Nat) (bq : Nat) (gq : Option Nat) (ca cb : Nat) : Prop := ca ≠ cb ∧ ca ≠ bp ∧ ca ≠ bq ∧ cb ≠ bp ∧ cb ≠ bq ∧ lo ≤ ca ∧ lo ≤ cb ∧ gp ≠ some ca ∧ gp ≠ some cb ∧ gq ≠ some ca ∧ gq ≠ some cb
def Two (w : World) (lo bp : Nat) (gp : Option Nat) (bq : Nat) (gq : Option Nat) (ca cb : Nat) (PA PB A B : List Int) : Prop :=
  PileAt w lo bp gp PA ∧ PileAt w lo bq gq PB ∧ Sep bp gp bq gq ∧ Fix lo bp gp bq gq ca cb ∧
  ∃ va vb, w.heap[ca]? = some (.cells #[va] 22 (0, 0)) ∧ w.heap[cb]? = some (.cells #[vb] 22 (0, 0)) ∧ IntsAt w va A ∧ IntsAt w vb B ∧ Free w va bp gp bq gq ca cb ∧ Free w vb bp gp bq gq ca cb
/-- A block that stays. -/
def Ext (w : World) (bp : Nat) (gp : Option Nat) (bq : Nat) (gq : Option Nat) (ca cb ob : Nat) (O : Obj) : Prop :=
  w.heap[ob]? = some O ∧ ob ≠ bp ∧ ob ≠ bq ∧ ob ≠ ca ∧ ob ≠ cb ∧ gp ≠ some ob ∧ gq ≠ some ob
theorem Ext.later {w w' : World} {bp bq ca cb ob : Nat} {gp gq : Option Nat} {O : Obj} (h : Ext w bp gp bq gq ca cb ob O) (hb : Below w.heap.size w w') : Ext w' bp gp bq gq ca cb ob O :=
  ⟨(hb.block ob (Array.getElem?_eq_some_iff.1 h.1).1).trans h.1, h.2⟩
theorem Free.later {w w' : World} {v : Value} {bp bq ca cb : Nat} {gp gq : Option Nat} (h : Free w v bp gp bq gq ca cb) (hs : w.heap.size ≤ w'.heap.size) : Free w' v bp gp bq gq ca cb := ⟨h.1, fun k hk => ⟨Nat.lt_of_lt_of_le (h.2 k hk).1 hs, (h.2 k hk).2⟩⟩
theorem Two.later {w w' : World} {lo bp bq ca cb : Nat} {gp gq : Option Nat} {PA PB A B : List Int} (h : Two w lo bp gp bq gq ca cb PA PB A B) (hb : Below w.heap.size w w') : Two w' lo bp gp bq gq ca cb PA PB A B := by
  obtain ⟨h1, h2, h3, h4, va, vb, h5, h6, h7, h8, h9, h10⟩ := h
  exact ⟨h1.later hb, h2.later hb, h3, h4, va, vb, (hb.block ca (Array.getElem?_eq_some_iff.1 h5).1).trans h5, (hb.block cb (Array.getElem?_eq_some_iff.1 h6).1).trans h6, h7.later hb, h8.later hb, h9.later hb.size, h10.later hb.size⟩
theorem newer_ne {w : World} {g g' : Option Nat} {k : Nat} (hn : Newer w g g') (hk : k < w.heap.size) (hg : g ≠ some k) : g' ≠ some k := by
  rcases hn with e | ⟨r, e, hr⟩
  · rw [e]; exact hg
  · rw [e]; intro e2; injection e2 with e2; omega
theorem vals_chg2 {w w' : World} {b1 b2 : Nat} {g1 g2 : Option Nat} {v : Value} {xs : List Value} (h : ValsAt w v xs) (hc : Chg2 w w' b1 g1 b2 g2) (ha : ∀ k, v.ownBlock = some k → k ≠ b1 ∧ g1 ≠ some k ∧ k ≠ b2 ∧ g2 ≠ some k) : ValsAt w' v xs := by
  rcases h with h | ⟨r, off, cap, rfl, hlt, hcell⟩
  · exact .inl h
  · obtain ⟨h1, h2, h3, h4⟩ := ha r rfl
    refine .inr ⟨r, off, cap, rfl, Nat.lt_of_lt_of_le hlt hc.size, fun i hi => ?_⟩
    rw [World.cell?_of_block (w := w) (a := ⟨r, off + i, none⟩) (hc.block r hlt h1 h2 h3 h4)]
    exact hcell i hi
/-- The piles change; the lists stay. -/
theorem Two.step {w w1 : World} {lo bp bq ca cb : Nat} {gp gq gp' gq' : Option Nat} {PA PB PA' PB' A B : List Int} (h : Two w lo bp gp bq gq ca cb PA PB A B) (hc : Chg2 w w1 bp gp bq gq) (hp : PileAt w1 lo bp gp' PA') (hq : PileAt w1 lo bq gq' PB')
    (hs : Sep bp gp' bq gq') (hnp : Newer w gp gp') (hnq : Newer w gq gq') : Two w1 lo bp gp' bq gq' ca cb PA' PB' A B := by
  obtain ⟨h1, h2, h3, ⟨f1, f2, f3, f4, f5, f6, f7, f8, f9, f10, f11⟩, va, vb, h5, h6, h7, h8, h9, h10⟩ := h
  have lca := (Array.getElem?_eq_some_iff.1 h5).1
  have lcb := (Array.getElem?_eq_some_iff.1 h6).1
  have hfree : ∀ {v : Value}, Free w v bp gp bq gq ca cb → Free w1 v bp gp' bq gq' ca cb := fun h => ⟨h.1, fun k hk => by
    obtain ⟨a1, a2, a3, a4, a5, a6, a7⟩ := h.2 k hk
    exact ⟨Nat.lt_of_lt_of_le a1 hc.size, a2, newer_ne hnp a1 a3, a4, newer_ne hnq a1 a5, a6, a7⟩⟩
  refine ⟨hp, hq, hs, ⟨f1, f2, f3, f4, f5, f6, f7, newer_ne hnp lca f8, newer_ne hnp lcb f9, newer_ne hnq lca f10, newer_ne hnq lcb f11⟩, va, vb, (hc.block ca lca f2 f8 f3 f10).trans h5, (hc.block cb lcb f4 f9 f5 f11).trans h6,
    vals_chg2 h7 hc (fun k hk => ?_), vals_chg2 h8 hc (fun k hk => ?_), hfree h9, hfree h10⟩
  · obtain ⟨a1, a2, a3, a4, a5, a6, a7⟩ := h9.2 k hk
    exact ⟨a2, a3, a4, a5⟩
  · obtain ⟨a1, a2, a3, a4, a5, a6, a7⟩ := h10.2 k hk
    exact ⟨a2, a3, a4, a5⟩
theorem Ext.step {w w1 : World} {bp bq ca cb ob : Nat} {gp gq gp' gq' : Option Nat} {O : Obj} (h : Ext w bp gp bq gq ca cb ob O) (hc : Chg2 w w1 bp gp bq gq) (hnp : Newer w gp gp') (hnq : Newer w gq gq') : Ext w1 bp gp' bq gq' ca cb ob O := by
  obtain ⟨h0, h1, h2, h3, h4, h5, h6⟩ := h
  have hl := (Array.getElem?_eq_some_iff.1 h0).1
  exact ⟨(hc.block ob hl h1 h5 h2 h6).trans h0, h1, h2, h3, h4, newer_ne hnp hl h5, newer_ne hnq hl h6⟩
theorem pile_other {w : World} {lo b c j : Nat} {g : Option Nat} {L : List Int} (h : PileAt w lo b g L) (u : Value) (hb : c ≠ b) (hg : g ≠ some c) : PileAt (w.setCell ⟨c, j, none⟩ u) lo b g L := by
  obtain ⟨v, h1, h2, h3, h4⟩ := h
  exact ⟨v, (heap_setCell_other w ⟨c, j, none⟩ b u (Ne.symm hb)).trans h1, h2, h3, own_set h4 (by rw [h2]; exact hg)⟩
theorem vals_other {w : World} {c j : Nat} {v u : Value} {xs : List Value} (h : ValsAt w v xs) (hv : v.ownBlock ≠ some c) : ValsAt (w.setCell ⟨c, j, none⟩ u) v xs := by
  rcases h with h | ⟨r, off, cap, rfl, hlt, hcell⟩
  · exact .inl h
  · refine .inr ⟨r, off, cap, rfl, by simpa using hlt, fun i hi => ?_⟩
    rw [World.cell?_of_block (w := w) (a := ⟨r, off + i, none⟩) (heap_setCell_other w ⟨c, j, none⟩ r u (fun e => hv (congrArg some e)))]
    exact hcell i hi
theorem Two.putA {w : World} {lo bp bq ca cb : Nat} {gp gq : Option Nat} {PA PB A B A' : List Int} {va' : Value} (h : Two w lo bp gp bq gq ca cb PA PB A B) (hi : IntsAt w va' A') (hf : Free w va' bp gp bq gq ca cb) :
    Two (w.setCell ⟨ca, 0, none⟩ va') lo bp gp bq gq ca cb PA PB A' B := by
  obtain ⟨h1, h2, h3, h4, va, vb, h5, h6, h7, h8, h9, h10⟩ := h
  have h4' := h4
  obtain ⟨f1, f2, f3, f4, f5, f6, f7, f8, f9, f10, f11⟩ := h4'
  refine ⟨pile_other h1 _ f2 f8, pile_other h2 _ f3 f10, h3, h4, va', vb, ?_, (heap_setCell_other w ⟨ca, 0, none⟩ cb va' (Ne.symm f1)).trans h6, vals_other hi (fun e => (hf.2 _ e).2.2.2.2.2.1 rfl), vals_other h8 (fun e => (h10.2 _ e).2.2.2.2.2.1 rfl), hf.later (by simp), h10.later (by simp)⟩
  rw [heap_setCell_same w ca 0 _ _ va' h5]; rfl
theorem Two.putB {w : World} {lo bp bq ca cb : Nat} {gp gq : Option Nat} {PA PB A B B' : List Int} {vb' : Value} (h : Two w lo bp gp bq gq ca cb PA PB A B) (hi : IntsAt w vb' B') (hf : Free w vb' bp gp bq gq ca cb) :
    Two (w.setCell ⟨cb, 0, none⟩ vb') lo bp gp bq gq ca cb PA PB A B' := by
  obtain ⟨h1, h2, h3, h4, va, vb, h5, h6, h7, h8, h9, h10⟩ := h
  have h4' := h4
  obtain ⟨f1, f2, f3, f4, f5, f6, f7, f8, f9, f10, f11⟩ := h4'
  refine ⟨pile_other h1 _ f4 f9, pile_other h2 _ f5 f11, h3, h4, va, vb', (heap_setCell_other w ⟨cb, 0, none⟩ ca vb' f1).trans h5, ?_, vals_other h7 (fun e => (h9.2 _ e).2.2.2.2.2.2 rfl), vals_other hi (fun e => (hf.2 _ e).2.2.2.2.2.2 rfl), h9.later (by simp), hf.later (by simp)⟩
  rw [heap_setCell_same w cb 0 _ _ vb' h6]; rfl
theorem Ext.put {w : World} {bp bq ca cb ob c : Nat} {gp gq : Option Nat} {O : Obj} (h : Ext w bp gp bq gq ca cb ob O) (hc : ob ≠ c) (u : Value) : Ext (w.setCell ⟨c, 0, none⟩ u) bp gp bq gq ca cb ob O :=
  ⟨(heap_setCell_other w ⟨c, 0, none⟩ ob u hc).trans h.1, h.2⟩
/-- What is made later is free. -/
theorem Two.free {w w1 : World} {lo bp bq ca cb : Nat} {gp gq : Option Nat} {PA PB A B : List Int} {v : Value} (h : Two w lo bp gp bq gq ca cb PA PB A B) (hc : CapOk v) (hv : ∀ k, v.ownBlock = some k → w.heap.size ≤ k ∧ k < w1.heap.size) : Free w1 v bp gp bq gq ca cb := by
  obtain ⟨h1, h2, h3, h4, va, vb, h5, h6, h7, h8, h9, h10⟩ := h
  refine ⟨hc, fun k hk => ?_⟩
  obtain ⟨a1, a2⟩ := hv k hk
  have lca := (Array.getElem?_eq_some_iff.1 h5).1
  have lcb := (Array.getElem?_eq_some_iff.1 h6).1
  have := h1.lt
  have := h2.lt
  exact ⟨a2, by omega, fun e => by have := h1.row k e; omega, by omega, fun e => by have := h2.row k e; omega, by omega, by omega⟩
theorem Two.below {X w w1 : World} {lo bp bq ca cb : Nat} {gp gq : Option Nat} {PA PB A B : List Int} (h : Two w lo bp gp bq gq ca cb PA PB A B) (hc : Chg2 w w1 bp gp bq gq) (hX : Below X.heap.size X w) (hlo : X.heap.size ≤ lo) : Below X.heap.size X w1 :=
  hc.below hX (Nat.le_trans hlo h.1.lo) (fun k hk => Nat.le_trans hlo (h.1.row k hk).1) (Nat.le_trans hlo h.2.1.lo) (fun k hk => Nat.le_trans hlo (h.2.1.row k hk).1)
theorem ints_tail {w : World} {b off cap : Nat} {x : Int} {l : List Int} (h : IntsAt w (.slice (some ⟨b, off, none⟩) (l.length + 1) cap) (x :: l)) : IntsAt w (.slice (some ⟨b, off + 1, none⟩) l.length (cap - 1)) l := by
  rcases h with ⟨_, _, h1, h2⟩ | ⟨b', off', cap', h1, h2, hc⟩
  · simp [intsV] at h2
  · injection h1 with h1 _ h3
    injection h1 with h1
    injection h1 with h1 h4
    subst h1 h4 h3
    refine .inr ⟨b, off + 1, cap - 1, by rw [intsV_len], h2, fun i hi => ?_⟩
    have := hc (i + 1) (by rw [intsV_len] at hi ⊢; simp; omega)
    rw [show off + 1 + i = off + (i + 1) by omega, this]
    simp [intsV]
theorem erase_without {A : List Int} (x : Int) (h : A.Nodup) : A.erase x = withoutL A x := h.erase_eq_filter x
theorem without_len (A : List Int) (x : Int) : (withoutL A x).length ≤ A.length := List.length_filter_le _ _
theorem without_nodup {A : List Int} (x : Int) (h : A.Nodup) : (withoutL A x).Nodup := h.sublist List.filter_sublist
/-- The append of numbers, as one step of a region that draws. -/
theorem step_append_ints {ops : Array Oper} {o : Oper} {a : Act} {w : World} {K : Act → World → Prop} {Q : Exit → Act → World → Prop} {E : Prop} (hgd : o.guard = none) (s x : Operand)
    (hop : o.op = .call { callee := .builtin .append, args := #[s, x], argTypes := #[22, 22] }) (hty : o.type = 22) (base : Nat) (v : Value) (n : Nat) (xs : List Value) (hs : a.eval s = v)
    (hown : w.ownsRow base 3 1 v n xs) (xa : Option Addr) (xn xc : Nat) (l : List Int) (hx : a.eval x = .slice xa xn xc) (hn : xn = l.length) (ht : IntsAt w (.slice xa xn xc) l) (h1 : n + l.length ≤ 1000) (hbase : base ≤ w.heap.size)
    (hK : ∀ v' w', w'.ownsRow base 3 1 v' (n + l.length) (xs ++ intsV l) → w.grownBy w' v.ownBlock → (v'.ownBlock = v.ownBlock ∨ v'.ownBlock = some w.heap.size) → K (a.put o.dst v') w') :
    if Region.wanted o (yielded ops a.tmps) = true then Oper.wp Try.prog o a w K Q else E := by
  have hw : Region.wanted o (yielded ops a.tmps) = true := by simp [Region.wanted, hgd]
  rw [if_pos hw]
  subst hn
  obtain ⟨v', w', hrun, h2, h3, h4⟩ := append_ints w base v n xs hown xa xc l ht h1 hbase
  unfold Oper.wp
  simp [execOp, hop, resolve, invoke, builtin, hs, hx, hty, hrun, Result.andThen]
  exact hK v' w' h2 h3 h4
end Go.Proofs.Ytphcdeppilaceaa
