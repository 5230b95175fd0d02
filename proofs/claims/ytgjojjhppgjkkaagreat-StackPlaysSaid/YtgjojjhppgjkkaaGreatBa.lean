/- Boards in memory (layer 11): what they hold, and what a step leaves as it was. -/
import Derived.Test.YtgjojjhppgjkkaaGreatAf
namespace Go.Proofs.YtgjojjhppgjkkaaGreat
open Go.RowKit Go.Maps

structure DryL where
  a : Bool
  b : Bool
  c : Bool
  d : Bool
def DryL.get (D : DryL) (k : Int) : Bool := if k = 0 then D.a else if k = 1 then D.b else if k = 2 then D.c else if k = 3 then D.d else false
def DryL.put (D : DryL) (k : Int) : DryL := if k = 0 then ⟨true, D.b, D.c, D.d⟩ else if k = 1 then ⟨D.a, true, D.c, D.d⟩ else if k = 2 then ⟨D.a, D.b, true, D.d⟩ else if k = 3 then ⟨D.a, D.b, D.c, true⟩ else D
def dry0 : DryL := ⟨false, false, false, false⟩
structure BoardL where
  S : StoreL
  T : TeamL
  D : DryL
/-- Where a board lies: its box, its store's, its teams' boxes and rows. -/
structure GhostB where
  q : Nat
  b : Nat
  tb : Nat
  s : Nat
  r : Nat
  G : Ghost
def GhostB.own (g : GhostB) (k : Nat) : Prop := g.G.tag k ≠ .no ∨ k = g.q ∨ k = g.tb ∨ k = g.s ∨ k = g.r
def bcells (g : GhostB) (D : DryL) : List Value := [.pointer (some ⟨g.b, 0, none⟩), .pointer (some ⟨g.tb, 0, none⟩), .bool D.a, .bool D.b, .bool D.c, .bool D.d]
structure BoardAt (w : World) (lo : Nat) (g : GhostB) (B : BoardL) : Prop where
  hd : w.heap[g.q]? = some (.cells #[.pointer (some ⟨g.b, 0, none⟩), .pointer (some ⟨g.tb, 0, none⟩), .bool B.D.a, .bool B.D.b, .bool B.D.c, .bool B.D.d] 42 (0, 0))
  st : StoreAt w lo g.b g.G B.S
  wf : WfS B.S
  len : B.S.objs.length ≤ 999
  tm : TeamAt w lo g.tb g.s g.r B.T
  se : B.T.sides.length = B.S.seats
  lq : lo ≤ g.q
  tq : g.G.tag g.q = .no
  tt : g.G.tag g.tb = .no
  ts : g.G.tag g.s = .no
  tr : g.G.tag g.r = .no
  nt : g.q ≠ g.tb
  ns : g.q ≠ g.s
  nr : g.q ≠ g.r
theorem BoardAt.lt {w : World} {lo : Nat} {g : GhostB} {B : BoardL} (h : BoardAt w lo g B) : g.q < w.heap.size := (Array.getElem?_eq_some_iff.1 h.hd).1
theorem BoardAt.ownLt {w : World} {lo k : Nat} {g : GhostB} {B : BoardL} (h : BoardAt w lo g B) (hk : g.own k) : k < w.heap.size := by
  rcases hk with hk | rfl | rfl | rfl | rfl
  · exact h.st.tagLt hk
  · exact h.lt
  · exact h.tm.lt
  · exact h.tm.sd.1
  · exact h.tm.ltr
theorem BoardAt.ownLo {w : World} {lo k : Nat} {g : GhostB} {B : BoardL} (h : BoardAt w lo g B) (hk : g.own k) : lo ≤ k := by
  rcases hk with hk | rfl | rfl | rfl | rfl
  · exact h.st.low k hk
  · exact h.lq
  · exact h.tm.lb
  · exact h.tm.ls
  · exact h.tm.lr
theorem BoardAt.kept {w w' : World} {lo : Nat} {g : GhostB} {B : BoardL} (h : BoardAt w lo g B) (hs : w.heap.size ≤ w'.heap.size) (hk : ∀ k, g.own k → w'.heap[k]? = w.heap[k]?) : BoardAt w' lo g B := by
  refine ⟨(hk g.q (.inr (.inl rfl))).trans h.hd, h.st.kept hs fun k ht => hk k (.inl ht), h.wf, h.len, ?_, h.se, h.lq, h.tq, h.tt, h.ts, h.tr, h.nt, h.ns, h.nr⟩
  obtain ⟨c1, c2, h0⟩ := h.tm.hd
  obtain ⟨cur, hr, ht⟩ := h.tm.rw
  exact ⟨⟨c1, c2, (hk _ (.inr (.inr (.inl rfl)))).trans h0⟩, ⟨Nat.lt_of_lt_of_le h.tm.sd.1 hs, fun k hkk => (World.cell?_of_block (hk _ (.inr (.inr (.inr (.inl rfl)))))).trans (h.tm.sd.2 k hkk)⟩,
    ⟨cur, (hk _ (.inr (.inr (.inr (.inr rfl))))).trans hr, ht⟩, h.tm.lb, h.tm.ls, h.tm.lr, h.tm.br, h.tm.sr, h.tm.n1, h.tm.n2, h.tm.nd⟩
theorem BoardAt.later {w w' : World} {lo : Nat} {g : GhostB} {B : BoardL} (h : BoardAt w lo g B) (hb : Below w.heap.size w w') : BoardAt w' lo g B :=
  h.kept hb.size fun k hk => hb.block k (h.ownLt hk)
/-- From one world to another a board alone was changed, and has new blocks. -/
structure TurnedB (w w' : World) (g g' : GhostB) : Prop where
  os : w'.os = w.os
  tape : w'.tape = w.tape
  output : w'.output = w.output
  size : w.heap.size ≤ w'.heap.size
  block : ∀ k, k < w.heap.size → ¬g.own k → w'.heap[k]? = w.heap[k]?
  own : ∀ k, k < w.heap.size → g'.own k → g.own k
theorem TurnedB.of_below {w w' : World} {g : GhostB} (hb : Below w.heap.size w w') : TurnedB w w' g g := ⟨hb.os, hb.tape, hb.output, hb.size, fun k hk _ => hb.block k hk, fun _ _ h => h⟩
theorem TurnedB.trans {w w1 w2 : World} {g g1 g2 : GhostB} (h : TurnedB w w1 g g1) (k : TurnedB w1 w2 g1 g2) : TurnedB w w2 g g2 :=
  ⟨k.os.trans h.os, k.tape.trans h.tape, k.output.trans h.output, Nat.le_trans h.size k.size,
    fun i hi ht => (k.block i (Nat.lt_of_lt_of_le hi h.size) (fun e => ht (h.own i hi e))).trans (h.block i hi ht),
    fun i hi e => h.own i hi (k.own i (Nat.lt_of_lt_of_le hi h.size) e)⟩
theorem TurnedB.below {A w w' : World} {g g' : GhostB} (h : TurnedB w w' g g') (hA : Below A.heap.size A w) (hlo : ∀ k, g.own k → A.heap.size ≤ k) : Below A.heap.size A w' :=
  ⟨h.os.trans hA.os, h.tape.trans hA.tape, h.output.trans hA.output, Nat.le_trans hA.size h.size, fun k hk =>
    (h.block k (Nat.lt_of_lt_of_le hk hA.size) (fun hn => by have := hlo k hn; omega)).trans (hA.block k hk)⟩
/-- Two boards share nothing. -/
def ApartB (g g' : GhostB) : Prop := ∀ k, ¬g.own k ∨ ¬g'.own k
theorem ApartB.flip {g g' : GhostB} (h : ApartB g g') : ApartB g' g := fun k => (h k).symm
theorem BoardAt.far {w w' : World} {lo' : Nat} {g g' f : GhostB} {B' : BoardL} (h' : BoardAt w lo' f B') (ha : ApartB g f) (ht : TurnedB w w' g g') : BoardAt w' lo' f B' ∧ ApartB g' f := by
  refine ⟨h'.kept ht.size fun k hk => ht.block k (h'.ownLt hk) ((ha k).resolve_right (fun e => e hk)), fun k => ?_⟩
  by_cases hk : k < w.heap.size
  · exact (ha k).imp (fun e e' => e (ht.own k hk e')) id
  · exact .inr (fun e => hk (h'.ownLt e))
/-- A block that is nobody's stays. -/
theorem TurnedB.keeps {w w' : World} {g g' : GhostB} (h : TurnedB w w' g g') {k : Nat} (hk : k < w.heap.size) (ht : ¬g.own k) : w'.heap[k]? = w.heap[k]? ∧ ¬g'.own k := ⟨h.block k hk ht, fun e => ht (h.own k hk e)⟩
theorem apart_copyB {w w3 : World} {lo : Nat} {g g' : GhostB} {B B' : BoardL} (h : BoardAt w lo g B) (h' : BoardAt w3 w.heap.size g' B') : ApartB g g' := fun k => by
  by_cases hk : k < w.heap.size
  · exact .inr (fun e => by have := h'.ownLo e; omega)
  · exact .inl (fun e => hk (h.ownLt e))
/-- The store has changed. -/
theorem BoardAt.withS {w w' : World} {lo : Nat} {g : GhostB} {B : BoardL} {G' : Ghost} {S' : StoreL} (h : BoardAt w lo g B) (hs : StoreAt w' lo g.b G' S') (ht : Turned w w' g.G G') (hw : WfS S') (hl : S'.objs.length ≤ 999) (hn : S'.seats = B.S.seats) :
    BoardAt w' lo { g with G := G' } { B with S := S' } ∧ TurnedB w w' g { g with G := G' } := by
  have hk : ∀ k, k < w.heap.size → g.G.tag k = .no → w'.heap[k]? = w.heap[k]? ∧ G'.tag k = .no := fun k h1 h2 => ht.keeps h1 h2
  have kq := hk _ h.lt h.tq
  have kt := hk _ h.tm.lt h.tt
  have ks := hk _ h.tm.sd.1 h.ts
  have kr := hk _ h.tm.ltr h.tr
  obtain ⟨c1, c2, h0⟩ := h.tm.hd
  obtain ⟨cur, hr, hc⟩ := h.tm.rw
  refine ⟨⟨kq.1.trans h.hd, hs, hw, hl, ⟨⟨c1, c2, kt.1.trans h0⟩, ⟨Nat.lt_of_lt_of_le h.tm.sd.1 ht.chg.size, fun k hkk => (World.cell?_of_block ks.1).trans (h.tm.sd.2 k hkk)⟩, ⟨cur, kr.1.trans hr, hc⟩, h.tm.lb, h.tm.ls, h.tm.lr, h.tm.br, h.tm.sr, h.tm.n1, h.tm.n2, h.tm.nd⟩,
    h.se.trans hn.symm, h.lq, kq.2, kt.2, ks.2, kr.2, h.nt, h.ns, h.nr⟩, ht.chg.os, ht.chg.tape, ht.chg.output, ht.chg.size, fun k hk he => ht.chg.block k hk (.inl (Classical.byContradiction fun hn => he (.inl hn))), fun k hk he => ?_⟩
  rcases he with he | he
  · exact .inl (by rw [← ht.tag k hk]; exact he)
  · exact .inr he
/-- What the teams share has changed. -/
theorem BoardAt.withT {w w' : World} {lo : Nat} {g : GhostB} {B : BoardL} {T' : TeamL} (h : BoardAt w lo g B) (hs : TeamAt w' lo g.tb g.s g.r T') (hg : w.grownBy w' (some g.r)) (hn : T'.sides.length = B.T.sides.length) :
    BoardAt w' lo g { B with T := T' } ∧ TurnedB w w' g g := by
  have hk : ∀ k, k < w.heap.size → k ≠ g.r → w'.heap[k]? = w.heap[k]? := fun k h1 h2 => hg.block k h1 (by simpa using h2)
  refine ⟨⟨(hk _ h.lt h.nr).trans h.hd, h.st.kept hg.size fun k hkk => hk k (h.st.tagLt hkk) (fun e => by rw [e] at hkk; exact hkk h.tr), h.wf, h.len, hs, hn.trans h.se, h.lq, h.tq, h.tt, h.ts, h.tr, h.nt, h.ns, h.nr⟩,
    hg.os, hg.tape, hg.output, hg.size, fun k hk1 he => hk k hk1 (fun e => he (.inr (.inr (.inr (.inr e))))), fun _ _ h => h⟩
/-- Who is dry has changed. -/
theorem BoardAt.withD {w w' : World} {lo : Nat} {g : GhostB} {B : BoardL} {D' : DryL} (h : BoardAt w lo g B) (hw : w'.heap[g.q]? = some (.cells #[.pointer (some ⟨g.b, 0, none⟩), .pointer (some ⟨g.tb, 0, none⟩), .bool D'.a, .bool D'.b, .bool D'.c, .bool D'.d] 42 (0, 0)))
    (hg : w.grownBy w' (some g.q)) : BoardAt w' lo g { B with D := D' } ∧ TurnedB w w' g g := by
  have hk : ∀ k, k < w.heap.size → k ≠ g.q → w'.heap[k]? = w.heap[k]? := fun k h1 h2 => hg.block k h1 (by simpa using h2)
  refine ⟨⟨hw, h.st.kept hg.size fun k hkk => hk k (h.st.tagLt hkk) (fun e => by rw [e] at hkk; exact hkk h.tq), h.wf, h.len, h.tm.grown hg h.nt.symm h.ns.symm h.nr.symm, h.se, h.lq, h.tq, h.tt, h.ts, h.tr, h.nt, h.ns, h.nr⟩,
    hg.os, hg.tape, hg.output, hg.size, fun k hk1 he => hk k hk1 (fun e => he (.inr (.inl e))), fun _ _ h => h⟩
/-- A board's cells. -/
theorem BoardAt.cells {w : World} {lo : Nat} {g : GhostB} {B : BoardL} (h : BoardAt w lo g B) : w.cell? ⟨g.q, 0, none⟩ = some (.pointer (some ⟨g.b, 0, none⟩)) ∧ w.cell? ⟨g.q, 1, none⟩ = some (.pointer (some ⟨g.tb, 0, none⟩)) ∧
    w.cell? ⟨g.q, 2, none⟩ = some (.bool B.D.a) ∧ w.cell? ⟨g.q, 3, none⟩ = some (.bool B.D.b) ∧ w.cell? ⟨g.q, 4, none⟩ = some (.bool B.D.c) ∧ w.cell? ⟨g.q, 5, none⟩ = some (.bool B.D.d) := by
  have hc := fun j => cell_of_row w g.q j _ _ _ h.hd
  exact ⟨hc 0, hc 1, hc 2, hc 3, hc 4, hc 5⟩
/-- What a call answers that changes a board. -/
def RetBd (w : World) (lo : Nat) (g : GhostB) (B : BoardL) (v : Value) (e : Ending) (w' : World) : Prop := e = .returned v ∧ ∃ g', BoardAt w' lo g' B ∧ TurnedB w w' g g' ∧ g'.q = g.q
/-- Whether there is a seat. -/
def hasT (B : BoardL) (k : Int) : Bool := decide (0 ≤ k ∧ k < B.S.seats)
theorem ofT_has {w : World} {lo : Nat} {g : GhostB} {B : BoardL} (h : BoardAt w lo g B) (k : Int) : (0 ≤ ofT B.T k) ↔ (0 ≤ k ∧ k < B.S.seats) := by
  unfold ofT
  by_cases h0 : 0 ≤ k
  · rw [if_pos h0]
    by_cases h1 : k.toNat < B.T.sides.length
    · have e : B.T.sides.getD k.toNat (-1) = B.T.sides[k.toNat] := by simp [List.getD, h1]
      rw [e]
      have h2 := h.tm.nd _ (List.getElem_mem h1)
      have h3 := h.se
      constructor
      · intro _; omega
      · intro _; exact h2.1
    · have e : B.T.sides.getD k.toNat (-1) = -1 := by simp [List.getD, h1]
      rw [e]
      have h3 := h.se
      constructor
      · intro h; omega
      · intro h; omega
  · rw [if_neg h0]
    constructor
    · intro h; omega
    · intro h; omega
end Go.Proofs.YtgjojjhppgjkkaaGreat
