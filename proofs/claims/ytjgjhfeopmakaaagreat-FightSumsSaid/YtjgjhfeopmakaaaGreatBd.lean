/- What may be aimed at (layer 10): owned, may, Check. The teams of the laws of layer 10; the document's example. Boards in memory (layer 11): what they hold, and what a step leaves as it was. What reads a board and what makes a copy (layer 11): has, Dry, Wet, Copy, New. Drawing cards (layer 11): what it comes to in a store, and the contract of Draw. -/
import Derived.Test.YtjgjhfeopmakaaaGreatSd
import Derived.Test.YtjgjhfeopmakaaaGreatTk
import Derived.Test.YtjgjhfeopmakaaaGreatJm
namespace Go.Proofs.YtjgjhfeopmakaaaGreat
open Go.RowKit Go.Maps

/-- Whether something may be aimed at, in plain words. -/
def ownT (T : TeamL) (S : StoreL) (seat i : Int) : Bool := matesT T seat (objOf S i).owner
def mayT (T : TeamL) (S : StoreL) (seat on i : Int) : Bool :=
  if on = 1 then creE S i == 0 else if on = 2 then (creE S i == 0) && !ownT T S seat i else if on = 3 then (creE S i == 0) && ownT T S seat i else if on = 4 then (i != ofT T seat) && !lostT T i else i == 0
def chkT (T : TeamL) (S : StoreL) (seat on i : Int) : Int := if ofT T seat < 0 ∨ on < 0 ∨ 4 < on then 1 else if mayT T S seat on i then 0 else 12

end Go.Proofs.YtjgjhfeopmakaaaGreat
namespace Go.Proofs.YtjgjhfeopmakaaaGreat
open Go.RowKit Go.Maps

def sidesT (n : Nat) : TeamL := if n % 3 = 1 then newT [0, 1, 1, 1] [30, 30] else if n % 3 = 2 then newT [0, 1, 2, 3] [20, 20, 20, 20] else newT [0, 0, 1, 1] [30, 30]
def RetSides (w : World) (T : TeamL) (e : Ending) (w' : World) : Prop := ∃ lo b s r, e = .returned (.pointer (some ⟨b, 0, none⟩)) ∧ TeamAt w' lo b s r T ∧ w.heap.size ≤ lo ∧ Below w.heap.size w w'
theorem new4_any {w : World} {g1 g2 c1 c2 : Nat} {S L : List Int} (h1 : w.heap[g1]? = some (.cells (intsV S).toArray 3 (0, 0))) (h2 : w.heap[g2]? = some (.cells (intsV L).toArray 3 (0, 0))) (hS : S.length ≤ 4) (hL : L.length ≤ 4) (hm : MayP S L) :
    Calls Tryz.prog 56 #[.slice (some ⟨g1, 0, none⟩) S.length c1, .slice (some ⟨g2, 0, none⟩) L.length c2] w (RetNewT w true (newT S L)) :=
  new9_any (by have h := RowAt.vals h1 c1; rwa [intsV_len] at h) (by have h := RowAt.vals h2 c2; rwa [intsV_len] at h) (by omega) (by omega) ⟨fun _ => hm, fun _ => rfl⟩
set_option maxRecDepth 100000 in
set_option maxHeartbeats 4000000 in
theorem sides_any {n : Nat} (hn : n < 256) (w : World) : Calls Tryz.prog 24 #[.int .u8 n] w (RetSides w (sidesT n)) := by
  have hc : (n : Int) % 3 = 0 ∨ (n : Int) % 3 = 1 ∨ (n : Int) % 3 = 2 := by omega
  have b2 := below_alloc2 (below_new w (.cells #[.int .i64 0, .int .i64 0, .int .i64 1, .int .i64 1] 3)) (.cells #[.int .i64 30, .int .i64 30] 3)
  have HB2 := Lib.hid b2
  rcases hc with hm | hm | hm
  · have hs : sidesT n = newT [0, 0, 1, 1] [30, 30] := by unfold sidesT; rw [if_neg (by omega), if_neg (by omega)]
    rw [hs]
    have HN := Lib.hid (new4_any (w := (w.alloc (.cells #[.int .i64 0, .int .i64 0, .int .i64 1, .int .i64 1] 3)).alloc (.cells #[.int .i64 30, .int .i64 30] 3)) (g1 := w.heap.size) (g2 := w.heap.size + 1) (c1 := 4) (c2 := 2) (S := [0, 0, 1, 1]) (L := [30, 30]) ((below_new _ _).block _ (by simp) |>.trans (heap_alloc_new w _)) (by have h := heap_alloc_new (w.alloc (.cells #[.int .i64 0, .int .i64 0, .int .i64 1, .int .i64 1] 3)) (.cells #[.int .i64 30, .int .i64 30] 3); rw [World.size_alloc] at h; exact h) (by simp) (by simp) (by unfold MayP FitP; decide))
    clear b2 hs
    go_enter Tryz.func24, Tryz.ntmps24
    go_wp2_with fail
    refine HN.out.mono ?_
    rintro e w2 ⟨hyes, _, hb2⟩
    obtain ⟨b, s, r, rfl, ht⟩ := hyes rfl
    have HT := Lib.hid ht
    have HB := Lib.hid (stepB HB2.out hb2)
    clear hyes ht hb2 HN
    dsimp only
    go_wp2
    go_ret
    exact ⟨_, b, s, r, rfl, HT.out, HB2.out.size, HB.out⟩
  · have hs : sidesT n = newT [0, 1, 1, 1] [30, 30] := by unfold sidesT; rw [if_pos (by omega)]
    rw [hs]
    have b3 := below_alloc2 b2 (.cells #[.int .i64 0, .int .i64 1, .int .i64 1, .int .i64 1] 3)
    have HB3 := Lib.hid b3
    have HN := Lib.hid (new4_any (w := ((w.alloc (.cells #[.int .i64 0, .int .i64 0, .int .i64 1, .int .i64 1] 3)).alloc (.cells #[.int .i64 30, .int .i64 30] 3)).alloc (.cells #[.int .i64 0, .int .i64 1, .int .i64 1, .int .i64 1] 3)) (g1 := w.heap.size + 2) (g2 := w.heap.size + 1) (c1 := 4) (c2 := 2) (S := [0, 1, 1, 1]) (L := [30, 30]) (by have h := heap_alloc_new ((w.alloc (.cells #[.int .i64 0, .int .i64 0, .int .i64 1, .int .i64 1] 3)).alloc (.cells #[.int .i64 30, .int .i64 30] 3)) (.cells #[.int .i64 0, .int .i64 1, .int .i64 1, .int .i64 1] 3); simp only [World.size_alloc] at h; exact h) (by have h := heap_alloc_new (w.alloc (.cells #[.int .i64 0, .int .i64 0, .int .i64 1, .int .i64 1] 3)) (.cells #[.int .i64 30, .int .i64 30] 3); rw [World.size_alloc] at h; exact ((below_new _ _).block _ (by simp)).trans h) (by simp) (by simp) (by unfold MayP FitP; decide))
    clear b2 b3 hs HB2
    go_enter Tryz.func24, Tryz.ntmps24
    go_wp2_with fail
    refine HN.out.mono ?_
    rintro e w2 ⟨hyes, _, hb2⟩
    obtain ⟨b, s, r, rfl, ht⟩ := hyes rfl
    have HT := Lib.hid ht
    have HB := Lib.hid (stepB HB3.out hb2)
    clear hyes ht hb2 HN
    dsimp only
    go_wp2
    go_ret
    exact ⟨_, b, s, r, rfl, HT.out, HB3.out.size, HB.out⟩
  · have hs : sidesT n = newT [0, 1, 2, 3] [20, 20, 20, 20] := by unfold sidesT; rw [if_neg (by omega), if_pos (by omega)]
    rw [hs]
    have b3 := below_alloc2 (below_alloc2 b2 (.cells #[.int .i64 0, .int .i64 1, .int .i64 2, .int .i64 3] 3)) (.cells #[.int .i64 20, .int .i64 20, .int .i64 20, .int .i64 20] 3)
    have HB3 := Lib.hid b3
    have HN := Lib.hid (new4_any (w := (((w.alloc (.cells #[.int .i64 0, .int .i64 0, .int .i64 1, .int .i64 1] 3)).alloc (.cells #[.int .i64 30, .int .i64 30] 3)).alloc (.cells #[.int .i64 0, .int .i64 1, .int .i64 2, .int .i64 3] 3)).alloc (.cells #[.int .i64 20, .int .i64 20, .int .i64 20, .int .i64 20] 3)) (g1 := w.heap.size + 2) (g2 := w.heap.size + 3) (c1 := 4) (c2 := 4) (S := [0, 1, 2, 3]) (L := [20, 20, 20, 20]) (by have h := heap_alloc_new ((w.alloc (.cells #[.int .i64 0, .int .i64 0, .int .i64 1, .int .i64 1] 3)).alloc (.cells #[.int .i64 30, .int .i64 30] 3)) (.cells #[.int .i64 0, .int .i64 1, .int .i64 2, .int .i64 3] 3); simp only [World.size_alloc] at h; exact ((below_new _ _).block _ (by simp)).trans h) (by have h := heap_alloc_new (((w.alloc (.cells #[.int .i64 0, .int .i64 0, .int .i64 1, .int .i64 1] 3)).alloc (.cells #[.int .i64 30, .int .i64 30] 3)).alloc (.cells #[.int .i64 0, .int .i64 1, .int .i64 2, .int .i64 3] 3)) (.cells #[.int .i64 20, .int .i64 20, .int .i64 20, .int .i64 20] 3); simp only [World.size_alloc] at h; exact h) (by simp) (by simp) (by unfold MayP FitP; decide))
    clear b2 b3 hs HB2
    go_enter Tryz.func24, Tryz.ntmps24
    go_wp2_with fail
    refine HN.out.mono ?_
    rintro e w2 ⟨hyes, _, hb2⟩
    obtain ⟨b, s, r, rfl, ht⟩ := hyes rfl
    have HT := Lib.hid ht
    have HB := Lib.hid (stepB HB3.out hb2)
    clear hyes ht hb2 HN
    dsimp only
    go_wp2
    go_ret
    exact ⟨_, b, s, r, rfl, HT.out, HB3.out.size, HB.out⟩
end Go.Proofs.YtjgjhfeopmakaaaGreat
namespace Go.Proofs.YtjgjhfeopmakaaaGreat
open Go.RowKit Go.Maps

structure DryL where
  a : Bool
  b : Bool
  c : Bool
  d : Bool
def DryL.get (D : DryL) (k : Int) : Bool := if k = 0 then D.a else if k = 1 then D.b else if k = 2 then D.c else if k = 3 then D.d else false
def DryL.put (D : DryL) (k : Int) : DryL := if k = 0 then ⟨true, D.b, D.c, D.d⟩ else if k = 1 then ⟨D.a, true, D.c, D.d⟩ else if k = 2 then ⟨D.a, D.b, true, D.d⟩ else if k = 3 then ⟨D.a, D.b, D.c, true⟩ else D
def dry0 : DryL := ⟨false, false, false, false⟩
structure BoardL where
  S : StoreL
  T : TeamL
  D : DryL
/-- Where a board lies: its box, its store's, its teams' boxes and rows. -/
structure GhostB where
  q : Nat
  b : Nat
  tb : Nat
  s : Nat
  r : Nat
  G : Ghost
def GhostB.own (g : GhostB) (k : Nat) : Prop := g.G.tag k ≠ .no ∨ k = g.q ∨ k = g.tb ∨ k = g.s ∨ k = g.r
def bcells (g : GhostB) (D : DryL) : List Value := [.pointer (some ⟨g.b, 0, none⟩), .pointer (some ⟨g.tb, 0, none⟩), .bool D.a, .bool D.b, .bool D.c, .bool D.d]
structure BoardAt (w : World) (lo : Nat) (g : GhostB) (B : BoardL) : Prop where
  hd : w.heap[g.q]? = some (.cells #[.pointer (some ⟨g.b, 0, none⟩), .pointer (some ⟨g.tb, 0, none⟩), .bool B.D.a, .bool B.D.b, .bool B.D.c, .bool B.D.d] 38 (0, 0))
  st : StoreAt w lo g.b g.G B.S
  wf : WfS B.S
  len : B.S.objs.length ≤ 999
  tm : TeamAt w lo g.tb g.s g.r B.T
  se : B.T.sides.length = B.S.seats
  lq : lo ≤ g.q
  tq : g.G.tag g.q = .no
  tt : g.G.tag g.tb = .no
  ts : g.G.tag g.s = .no
  tr : g.G.tag g.r = .no
  nt : g.q ≠ g.tb
  ns : g.q ≠ g.s
  nr : g.q ≠ g.r
theorem BoardAt.lt {w : World} {lo : Nat} {g : GhostB} {B : BoardL} (h : BoardAt w lo g B) : g.q < w.heap.size := (Array.getElem?_eq_some_iff.1 h.hd).1
theorem BoardAt.ownLt {w : World} {lo k : Nat} {g : GhostB} {B : BoardL} (h : BoardAt w lo g B) (hk : g.own k) : k < w.heap.size := by
  rcases hk with hk | rfl | rfl | rfl | rfl
  · exact h.st.tagLt hk
  · exact h.lt
  · exact h.tm.lt
  · exact h.tm.sd.1
  · exact h.tm.ltr
theorem BoardAt.ownLo {w : World} {lo k : Nat} {g : GhostB} {B : BoardL} (h : BoardAt w lo g B) (hk : g.own k) : lo ≤ k := by
  rcases hk with hk | rfl | rfl | rfl | rfl
  · exact h.st.low k hk
  · exact h.lq
  · exact h.tm.lb
  · exact h.tm.ls
  · exact h.tm.lr
theorem BoardAt.kept {w w' : World} {lo : Nat} {g : GhostB} {B : BoardL} (h : BoardAt w lo g B) (hs : w.heap.size ≤ w'.heap.size) (hk : ∀ k, g.own k → w'.heap[k]? = w.heap[k]?) : BoardAt w' lo g B := by
  refine ⟨(hk g.q (.inr (.inl rfl))).trans h.hd, h.st.kept hs fun k ht => hk k (.inl ht), h.wf, h.len, ?_, h.se, h.lq, h.tq, h.tt, h.ts, h.tr, h.nt, h.ns, h.nr⟩
  obtain ⟨c1, c2, h0⟩ := h.tm.hd
  obtain ⟨cur, hr, ht⟩ := h.tm.rw
  exact ⟨⟨c1, c2, (hk _ (.inr (.inr (.inl rfl)))).trans h0⟩, ⟨Nat.lt_of_lt_of_le h.tm.sd.1 hs, fun k hkk => (World.cell?_of_block (hk _ (.inr (.inr (.inr (.inl rfl)))))).trans (h.tm.sd.2 k hkk)⟩,
    ⟨cur, (hk _ (.inr (.inr (.inr (.inr rfl))))).trans hr, ht⟩, h.tm.lb, h.tm.ls, h.tm.lr, h.tm.br, h.tm.sr, h.tm.n1, h.tm.n2, h.tm.nd⟩
theorem BoardAt.later {w w' : World} {lo : Nat} {g : GhostB} {B : BoardL} (h : BoardAt w lo g B) (hb : Below w.heap.size w w') : BoardAt w' lo g B :=
  h.kept hb.size fun k hk => hb.block k (h.ownLt hk)
/-- From one world to another a board alone was changed, and has new blocks. -/
structure TurnedB (w w' : World) (g g' : GhostB) : Prop where
  os : w'.os = w.os
  tape : w'.tape = w.tape
  output : w'.output = w.output
  size : w.heap.size ≤ w'.heap.size
  block : ∀ k, k < w.heap.size → ¬g.own k → w'.heap[k]? = w.heap[k]?
  own : ∀ k, k < w.heap.size → g'.own k → g.own k
theorem TurnedB.of_below {w w' : World} {g : GhostB} (hb : Below w.heap.size w w') : TurnedB w w' g g := ⟨hb.os, hb.tape, hb.output, hb.size, fun k hk _ => hb.block k hk, fun _ _ h => h⟩
theorem TurnedB.trans {w w1 w2 : World} {g g1 g2 : GhostB} (h : TurnedB w w1 g g1) (k : TurnedB w1 w2 g1 g2) : TurnedB w w2 g g2 :=
  ⟨k.os.trans h.os, k.tape.trans h.tape, k.output.trans h.output, Nat.le_trans h.size k.size,
    fun i hi ht => (k.block i (Nat.lt_of_lt_of_le hi h.size) (fun e => ht (h.own i hi e))).trans (h.block i hi ht),
    fun i hi e => h.own i hi (k.own i (Nat.lt_of_lt_of_le hi h.size) e)⟩
theorem TurnedB.below {A w w' : World} {g g' : GhostB} (h : TurnedB w w' g g') (hA : Below A.heap.size A w) (hlo : ∀ k, g.own k → A.heap.size ≤ k) : Below A.heap.size A w' :=
  ⟨h.os.trans hA.os, h.tape.trans hA.tape, h.output.trans hA.output, Nat.le_trans hA.size h.size, fun k hk =>
    (h.block k (Nat.lt_of_lt_of_le hk hA.size) (fun hn => by have := hlo k hn; omega)).trans (hA.block k hk)⟩
/-- Two boards share nothing. -/
def ApartB (g g' : GhostB) : Prop := ∀ k, ¬g.own k ∨ ¬g'.own k
theorem ApartB.flip {g g' : GhostB} (h : ApartB g g') : ApartB g' g := fun k => (h k).symm
theorem BoardAt.far {w w' : World} {lo' : Nat} {g g' f : GhostB} {B' : BoardL} (h' : BoardAt w lo' f B') (ha : ApartB g f) (ht : TurnedB w w' g g') : BoardAt w' lo' f B' ∧ ApartB g' f := by
  refine ⟨h'.kept ht.size fun k hk => ht.block k (h'.ownLt hk) ((ha k).resolve_right (fun e => e hk)), fun k => ?_⟩
  by_cases hk : k < w.heap.size
  · exact (ha k).imp (fun e e' => e (ht.own k hk e')) id
  · exact .inr (fun e => hk (h'.ownLt e))
/-- A block that is nobody's stays. -/
theorem TurnedB.keeps {w w' : World} {g g' : GhostB} (h : TurnedB w w' g g') {k : Nat} (hk : k < w.heap.size) (ht : ¬g.own k) : w'.heap[k]? = w.heap[k]? ∧ ¬g'.own k := ⟨h.block k hk ht, fun e => ht (h.own k hk e)⟩
theorem apart_copyB {w w3 : World} {lo : Nat} {g g' : GhostB} {B B' : BoardL} (h : BoardAt w lo g B) (h' : BoardAt w3 w.heap.size g' B') : ApartB g g' := fun k => by
  by_cases hk : k < w.heap.size
  · exact .inr (fun e => by have := h'.ownLo e; omega)
  · exact .inl (fun e => hk (h.ownLt e))
/-- The store has changed. -/
theorem BoardAt.withS {w w' : World} {lo : Nat} {g : GhostB} {B : BoardL} {G' : Ghost} {S' : StoreL} (h : BoardAt w lo g B) (hs : StoreAt w' lo g.b G' S') (ht : Turned w w' g.G G') (hw : WfS S') (hl : S'.objs.length ≤ 999) (hn : S'.seats = B.S.seats) :
    BoardAt w' lo { g with G := G' } { B with S := S' } ∧ TurnedB w w' g { g with G := G' } := by
  have hk : ∀ k, k < w.heap.size → g.G.tag k = .no → w'.heap[k]? = w.heap[k]? ∧ G'.tag k = .no := fun k h1 h2 => ht.keeps h1 h2
  have kq := hk _ h.lt h.tq
  have kt := hk _ h.tm.lt h.tt
  have ks := hk _ h.tm.sd.1 h.ts
  have kr := hk _ h.tm.ltr h.tr
  obtain ⟨c1, c2, h0⟩ := h.tm.hd
  obtain ⟨cur, hr, hc⟩ := h.tm.rw
  refine ⟨⟨kq.1.trans h.hd, hs, hw, hl, ⟨⟨c1, c2, kt.1.trans h0⟩, ⟨Nat.lt_of_lt_of_le h.tm.sd.1 ht.chg.size, fun k hkk => (World.cell?_of_block ks.1).trans (h.tm.sd.2 k hkk)⟩, ⟨cur, kr.1.trans hr, hc⟩, h.tm.lb, h.tm.ls, h.tm.lr, h.tm.br, h.tm.sr, h.tm.n1, h.tm.n2, h.tm.nd⟩,
    h.se.trans hn.symm, h.lq, kq.2, kt.2, ks.2, kr.2, h.nt, h.ns, h.nr⟩, ht.chg.os, ht.chg.tape, ht.chg.output, ht.chg.size, fun k hk he => ht.chg.block k hk (.inl (Classical.byContradiction fun hn => he (.inl hn))), fun k hk he => ?_⟩
  rcases he with he | he
  · exact .inl (by rw [← ht.tag k hk]; exact he)
  · exact .inr he
/-- What the teams share has changed. -/
theorem BoardAt.withT {w w' : World} {lo : Nat} {g : GhostB} {B : BoardL} {T' : TeamL} (h : BoardAt w lo g B) (hs : TeamAt w' lo g.tb g.s g.r T') (hg : w.grownBy w' (some g.r)) (hn : T'.sides.length = B.T.sides.length) :
    BoardAt w' lo g { B with T := T' } ∧ TurnedB w w' g g := by
  have hk : ∀ k, k < w.heap.size → k ≠ g.r → w'.heap[k]? = w.heap[k]? := fun k h1 h2 => hg.block k h1 (by simpa using h2)
  refine ⟨⟨(hk _ h.lt h.nr).trans h.hd, h.st.kept hg.size fun k hkk => hk k (h.st.tagLt hkk) (fun e => by rw [e] at hkk; exact hkk h.tr), h.wf, h.len, hs, hn.trans h.se, h.lq, h.tq, h.tt, h.ts, h.tr, h.nt, h.ns, h.nr⟩,
    hg.os, hg.tape, hg.output, hg.size, fun k hk1 he => hk k hk1 (fun e => he (.inr (.inr (.inr (.inr e))))), fun _ _ h => h⟩
/-- Who is dry has changed. -/
theorem BoardAt.withD {w w' : World} {lo : Nat} {g : GhostB} {B : BoardL} {D' : DryL} (h : BoardAt w lo g B) (hw : w'.heap[g.q]? = some (.cells #[.pointer (some ⟨g.b, 0, none⟩), .pointer (some ⟨g.tb, 0, none⟩), .bool D'.a, .bool D'.b, .bool D'.c, .bool D'.d] 38 (0, 0)))
    (hg : w.grownBy w' (some g.q)) : BoardAt w' lo g { B with D := D' } ∧ TurnedB w w' g g := by
  have hk : ∀ k, k < w.heap.size → k ≠ g.q → w'.heap[k]? = w.heap[k]? := fun k h1 h2 => hg.block k h1 (by simpa using h2)
  refine ⟨⟨hw, h.st.kept hg.size fun k hkk => hk k (h.st.tagLt hkk) (fun e => by rw [e] at hkk; exact hkk h.tq), h.wf, h.len, h.tm.grown hg h.nt.symm h.ns.symm h.nr.symm, h.se, h.lq, h.tq, h.tt, h.ts, h.tr, h.nt, h.ns, h.nr⟩,
    hg.os, hg.tape, hg.output, hg.size, fun k hk1 he => hk k hk1 (fun e => he (.inr (.inl e))), fun _ _ h => h⟩
/-- A board's cells. -/
theorem BoardAt.cells {w : World} {lo : Nat} {g : GhostB} {B : BoardL} (h : BoardAt w lo g B) : w.cell? ⟨g.q, 0, none⟩ = some (.pointer (some ⟨g.b, 0, none⟩)) ∧ w.cell? ⟨g.q, 1, none⟩ = some (.pointer (some ⟨g.tb, 0, none⟩)) ∧
    w.cell? ⟨g.q, 2, none⟩ = some (.bool B.D.a) ∧ w.cell? ⟨g.q, 3, none⟩ = some (.bool B.D.b) ∧ w.cell? ⟨g.q, 4, none⟩ = some (.bool B.D.c) ∧ w.cell? ⟨g.q, 5, none⟩ = some (.bool B.D.d) := by
  have hc := fun j => cell_of_row w g.q j _ _ _ h.hd
  exact ⟨hc 0, hc 1, hc 2, hc 3, hc 4, hc 5⟩
/-- What a call answers that changes a board. -/
def RetBd (w : World) (lo : Nat) (g : GhostB) (B : BoardL) (v : Value) (e : Ending) (w' : World) : Prop := e = .returned v ∧ ∃ g', BoardAt w' lo g' B ∧ TurnedB w w' g g' ∧ g'.q = g.q
/-- Whether there is a seat. -/
def hasT (B : BoardL) (k : Int) : Bool := decide (0 ≤ k ∧ k < B.S.seats)
theorem ofT_has {w : World} {lo : Nat} {g : GhostB} {B : BoardL} (h : BoardAt w lo g B) (k : Int) : (0 ≤ ofT B.T k) ↔ (0 ≤ k ∧ k < B.S.seats) := by
  unfold ofT
  by_cases h0 : 0 ≤ k
  · rw [if_pos h0]
    by_cases h1 : k.toNat < B.T.sides.length
    · have e : B.T.sides.getD k.toNat (-1) = B.T.sides[k.toNat] := by simp [List.getD, h1]
      rw [e]
      have h2 := h.tm.nd _ (List.getElem_mem h1)
      have h3 := h.se
      constructor
      · intro _; omega
      · intro _; exact h2.1
    · have e : B.T.sides.getD k.toNat (-1) = -1 := by simp [List.getD, h1]
      rw [e]
      have h3 := h.se
      constructor
      · intro h; omega
      · intro h; omega
  · rw [if_neg h0]
    constructor
    · intro h; omega
    · intro h; omega
end Go.Proofs.YtjgjhfeopmakaaaGreat
namespace Go.Proofs.YtjgjhfeopmakaaaGreat
open Go.RowKit Go.Maps
attribute [local go_sem] Oper.semAt_some

set_option maxRecDepth 100000 in
set_option maxHeartbeats 2000000 in
theorem sseats_any {w : World} {lo b : Nat} {G : Ghost} {S : StoreL} (h : StoreAt w lo b G S) : Calls Tryz.prog 57 #[.pointer (some ⟨b, 0, none⟩)] w (Same w (.int .i64 S.seats)) := by
  have c1 : w.cell? ⟨b, 1, none⟩ = some (.int .i64 S.seats) := by rw [cell_of_row w b 1 _ _ _ h.hd]; rfl
  clear h
  go_enter Tryz.func57, Tryz.ntmps57
  go_wp2
  go_ret
  exact ⟨rfl, rfl⟩
def dryT (B : BoardL) (k : Int) : Bool := hasT B k && B.D.get k
theorem hasT_cases {B : BoardL} (hn : B.S.seats ≤ 4) {k : Int} (h : hasT B k = true) : k = 0 ∨ k = 1 ∨ k = 2 ∨ k = 3 := by
  have := of_decide_eq_true h
  omega
set_option maxRecDepth 100000 in
set_option maxHeartbeats 2000000 in
theorem bcopy_nil (w : World) : Calls Tryz.prog 8 #[.pointer none] w (Same w (.pointer none)) := by
  go_enter Tryz.func8, Tryz.ntmps8
  go_wp2
  go_ret
  exact ⟨rfl, rfl⟩
set_option maxRecDepth 100000 in
set_option maxHeartbeats 2000000 in
theorem bsame_nil (w : World) : Calls Tryz.prog 13 #[.pointer none, .pointer none] w (Same w (.bool true)) := by
  go_enter Tryz.func13, Tryz.ntmps13
  go_wp2
  go_ret
  exact ⟨rfl, rfl⟩
set_option maxRecDepth 100000 in
set_option maxHeartbeats 2000000 in
theorem bsame_none (q : Nat) (w : World) : Calls Tryz.prog 13 #[.pointer none, .pointer (some ⟨q, 0, none⟩)] w (Same w (.bool false)) := by
  have hq : ∀ W, (binOp .eql 26 (.pointer none) (.pointer (some ⟨q, 0, none⟩))).run Tryz.prog W = .ok (.bool false) W := fun W => by kernel_rfl
  go_enter Tryz.func13, Tryz.ntmps13
  go_wp2
  go_ret
  exact ⟨rfl, rfl⟩
end Go.Proofs.YtjgjhfeopmakaaaGreat
namespace Go.Proofs.YtjgjhfeopmakaaaGreat
open Go.RowKit Go.Maps
attribute [local go_sem] Oper.semAt_some

def moveI (S : StoreL) (i : Int) (zone : Nat) : StoreL := moveL S (i - 1).toNat (objOf S i) zone false
def draw1 (S : StoreL) (k : Nat) : StoreL := match S.pl k 1 with
  | [] => S
  | i :: _ => moveI S i 2
def drawS (S : StoreL) (k : Nat) : Nat → StoreL
  | 0 => S
  | n + 1 => draw1 (drawS S k n) k
theorem okK_lib {n k : Nat} (hk : k < n) : okK n k 1 := ⟨hk, by omega, by omega, by omega⟩
theorem okK_hand {n k : Nat} (hk : k < n) : okK n k 2 := ⟨hk, by omega, by omega, by omega⟩
theorem moveI_at {S : StoreL} {j : Nat} (hj : j < S.objs.length) (zone : Nat) : moveI S ((j : Int) + 1) zone = moveL S j S.objs[j] zone false := by
  unfold moveI
  rw [objOf_at hj, show ((j : Int) + 1 - 1).toNat = j by omega]
/-- The top card of a Library goes on top of the hand. -/
theorem draw_one {S : StoreL} (h : WfS S) {k : Nat} (hk : k < S.seats) {i : Int} {L : List Int} (e : S.pl k 1 = i :: L) :
    ∃ j, ∃ hj : j < S.objs.length, i = (j : Int) + 1 ∧ moveI S i 2 = moveL S j S.objs[j] 2 false ∧ (moveI S i 2).pl = upd (upd S.pl k 1 L) k 2 (i :: S.pl k 2) ∧ WfS (moveI S i 2) ∧ (moveI S i 2).objs.length = S.objs.length ∧ (moveI S i 2).seats = S.seats ∧ S.objs[j].zone = 1 ∧ S.objs[j].owner = k := by
  obtain ⟨j, hj, rfl, hkey, hz⟩ := (h.mem k 1 (okK_lib hk) i).1 (by rw [e]; simp)
  obtain ⟨_, _, _, ho, ho2, hz1, hz7⟩ := h.ids j hj
  have hz' : S.objs[j].zone = 1 := by omega
  have hown : S.objs[j].owner.toNat = k := by
    unfold keyS canN at hkey
    rw [if_neg (by omega)] at hkey
    exact hkey
  have hm := moveI_at hj 2
  have hpl := moveL_pl h hj (zone := 2) (by omega) (by omega) false
  have hc : canN S.objs[j].owner.toNat 2 = k := by unfold canN; rw [if_neg (by omega)]; exact hown
  rw [hkey, hz, hc, e, List.erase_cons_head, upd_other _ _ (by omega)] at hpl
  refine ⟨j, hj, rfl, hm, by rw [hm, hpl]; exact congrArg _ (insL_top _ _), by rw [hm]; exact h.move hj (by omega) (by omega) false, by rw [hm]; simp [moveL], by rw [hm]; rfl, hz', by omega⟩
/-- What drawing leaves of a store. -/
structure DrawnS (S : StoreL) (k c : Nat) (S' : StoreL) : Prop where
  wf : WfS S'
  len : S'.objs.length = S.objs.length
  seats : S'.seats = S.seats
  lib : S'.pl k 1 = (S.pl k 1).drop c
  hand : S'.pl k 2 = ((S.pl k 1).take c).reverse ++ S.pl k 2
theorem drawS_wf {S : StoreL} (h : WfS S) {k : Nat} (hk : k < S.seats) : ∀ c, c ≤ (S.pl k 1).length → DrawnS S k c (drawS S k c)
  | 0, _ => ⟨h, rfl, rfl, by simp [drawS], by simp [drawS]⟩
  | c + 1, hc => by
    have ih := drawS_wf h hk c (by omega)
    have e : (drawS S k c).pl k 1 = (S.pl k 1)[c] :: (S.pl k 1).drop (c + 1) := by rw [ih.lib]; exact List.drop_eq_getElem_cons hc
    obtain ⟨j, hj, _, _, hpl, hw, hl, hs, _⟩ := draw_one ih.wf (by rw [ih.seats]; exact hk) e
    have ed : drawS S k (c + 1) = moveI (drawS S k c) (S.pl k 1)[c] 2 := by
      show draw1 (drawS S k c) k = _
      unfold draw1
      rw [e]
    rw [ed]
    refine ⟨hw, hl.trans ih.len, hs.trans ih.seats, ?_, ?_⟩
    · rw [hpl, upd_other _ _ (by omega), upd_same]
    · rw [hpl, upd_same, ih.hand, List.take_succ_eq_append_getElem hc, List.reverse_append]
      rfl
theorem drawS_next {S : StoreL} (h : WfS S) {k : Nat} (hk : k < S.seats) {c : Nat} (hc : c < (S.pl k 1).length) : drawS S k (c + 1) = moveI (drawS S k c) (S.pl k 1)[c] 2 := by
  have ih := drawS_wf h hk c (by omega)
  show draw1 (drawS S k c) k = _
  unfold draw1
  rw [ih.lib, List.drop_eq_getElem_cons hc]
/-- How many cards are to be drawn, and are. -/
def askN (n : Int) : Nat := (min n 100).toNat
def drawnN (S : StoreL) (k : Nat) (n : Int) : Nat := min (askN n) (S.pl k 1).length
def drawB (B : BoardL) (k : Nat) (n : Int) : BoardL := ⟨drawS B.S k (drawnN B.S k n), B.T, if (B.S.pl k 1).length < askN n then B.D.put k else B.D⟩
theorem BoardAt.putD {w : World} {lo : Nat} {g : GhostB} {B : BoardL} (h : BoardAt w lo g B) {k : Nat} (hk : k < 4) : BoardAt (w.setCell ⟨g.q, 2 + k, none⟩ (.bool true)) lo g { B with D := B.D.put k } ∧ TurnedB w (w.setCell ⟨g.q, 2 + k, none⟩ (.bool true)) g g := by
  have hr : RowAt w g.q 38 (bcells g B.D) := h.hd
  have hs := hr.set (2 + k) (.bool true)
  refine h.withD ?_ (grown_set _ _ _ _)
  refine Eq.trans hs ?_
  rcases (show k = 0 ∨ k = 1 ∨ k = 2 ∨ k = 3 by omega) with rfl | rfl | rfl | rfl <;> rfl
theorem BoardAt.free {w : World} {lo : Nat} {g : GhostB} {B : BoardL} (h : BoardAt w lo g B) (j : Nat) : w.frozen? ⟨g.q, j, none⟩ = false := frozen_of_row w g.q j _ _ h.hd
/-- A card is drawn on a board. -/
theorem draw_step {w : World} {lo : Nat} {g : GhostB} {B : BoardL} (h : BoardAt w lo g B) {k : Nat} {i : Int} {L : List Int} (hk : k < B.S.seats) (e : B.S.pl k 1 = i :: L) :
    Calls Tryz.prog 20 #[.pointer (some ⟨g.b, 0, none⟩), .int .i64 i, .int .i64 2, .bool false] w (fun e w' => e = .returned (.int .i64 0) ∧ ∃ g', BoardAt w' lo g' ⟨moveI B.S i 2, B.T, B.D⟩ ∧ TurnedB w w' g g' ∧ g'.q = g.q) := by
  obtain ⟨j, hj, rfl, hm, _, hw, hl, hs, _⟩ := draw_one h.wf hk e
  refine (move_ok h.st h.wf h.len j 2 hj (by omega) (by omega) false).mono ?_
  rintro e w' ⟨rfl, G', h1, h2⟩
  rw [← hm] at h1
  obtain ⟨b1, t1⟩ := h.withS h1 h2 hw (by rw [hl]; exact h.len) hs
  exact ⟨rfl, _, b1, t1, rfl⟩
end Go.Proofs.YtjgjhfeopmakaaaGreat
