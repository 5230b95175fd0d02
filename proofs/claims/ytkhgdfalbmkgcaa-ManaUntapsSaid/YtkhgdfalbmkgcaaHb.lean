/- A store in memory: which block is whose (tags), what a change of it leaves as it was; what later worlds keep of it. -/
import Derived.Test.YtkhgdfalbmkgcaaHa
namespace Go.Proofs.Ytkhgdfalbmkgcaa
open Go.RowKit Go.Maps

/-- Whose a block is: nobody's, the table's, the store's own, the map's, the objects', a pile's, the row's of a pile. -/
inductive Tag
  | no | tab | head | map | row
  | pile (s z : Nat)
  | prow (s z : Nat)
structure Ghost where
  tv : Value
  ov : Value
  mb : Nat
  pb : Nat → Nat → Nat
  pg : Nat → Nat → Option Nat
  tag : Nat → Tag
structure StoreL where
  T : List Crd.CardL
  seats : Nat
  objs : List ObjL
  pl : Nat → Nat → List Int
/-- A table that nobody writes: it stays as long as the blocks that bear its mark do. -/
def TabAt (w : World) (tag : Nat → Tag) (v : Value) (T : List Crd.CardL) : Prop := ∀ W' : World, (∀ k, tag k = .tab → W'.heap[k]? = w.heap[k]?) → Crd.CardsAt W' v T
theorem TabAt.is {w : World} {tag : Nat → Tag} {v : Value} {T : List Crd.CardL} (h : TabAt w tag v T) : Crd.CardsAt w v T := h w fun _ _ => rfl
theorem TabAt.kept {w w' : World} {tag tag' : Nat → Tag} {v : Value} {T : List Crd.CardL} (h : TabAt w tag v T) (hk : ∀ k, tag k = .tab → w'.heap[k]? = w.heap[k]? ∧ tag' k = .tab) : TabAt w' tag' v T :=
  fun W' hW => h W' fun k ht => (hW k (hk k ht).2).trans (hk k ht).1
/-- All that lay there but what bears a mark that may be written is as it was. -/
structure ChgF (w w' : World) (tag : Nat → Tag) : Prop where
  os : w'.os = w.os
  tape : w'.tape = w.tape
  output : w'.output = w.output
  size : w.heap.size ≤ w'.heap.size
  block : ∀ k, k < w.heap.size → tag k = .no ∨ tag k = .tab → w'.heap[k]? = w.heap[k]?
structure StoreAt (w : World) (lo b : Nat) (G : Ghost) (S : StoreL) : Prop where
  hd : w.heap[b]? = some (.cells #[G.tv, .int .i64 S.seats, G.ov, .map (some G.mb)] 84 (0, 0))
  tab : TabAt w G.tag G.tv S.T
  ob : w.ownsRow lo 32 11 G.ov S.objs.length (objsV S.objs)
  mp : MapAt w G.mb S.seats G.pb
  pi : ∀ s z, okK S.seats s z → PileAt w lo (G.pb s z) (G.pg s z) (S.pl s z)
  tb : G.tag b = .head
  tm : G.tag G.mb = .map
  tr : ∀ k, G.ov.ownBlock = some k → G.tag k = .row
  tp : ∀ s z, okK S.seats s z → G.tag (G.pb s z) = .pile s z
  tg : ∀ s z k, okK S.seats s z → G.pg s z = some k → G.tag k = .prow s z
  low : ∀ k, G.tag k ≠ .no → lo ≤ k
  high : ∀ k, w.heap.size ≤ k → G.tag k = .no
  n1 : 1 ≤ S.seats
  n4 : S.seats ≤ 4
  ok : Crd.tableE S.T = 0
theorem own11_later {w w' : World} {base sz : Nat} {t : TypeId} {v : Value} {n : Nat} {xs : List Value} (h : w.ownsRow base t sz v n xs) (hb : ∀ k, v.ownBlock = some k → w'.heap[k]? = w.heap[k]?) : w'.ownsRow base t sz v n xs := by
  refine ⟨h.1, ?_⟩
  rcases h.2 with h2 | ⟨g, cap, cur, e, hb2, hg, r⟩
  · exact .inl h2
  · exact .inr ⟨g, cap, cur, e, hb2, (hb g (by rw [e]; rfl)).trans hg, r⟩
theorem pile_kept {w w' : World} {lo b : Nat} {g : Option Nat} {L : List Int} (h : PileAt w lo b g L) (h1 : w'.heap[b]? = w.heap[b]?) (h2 : ∀ k, g = some k → w'.heap[k]? = w.heap[k]?) : PileAt w' lo b g L := by
  obtain ⟨v, p1, p2, p3, p4⟩ := h
  exact ⟨v, h1.trans p1, p2, p3, own11_later p4 (fun k hk => h2 k (p2 ▸ hk))⟩
theorem StoreAt.lt {w : World} {lo b : Nat} {G : Ghost} {S : StoreL} (h : StoreAt w lo b G S) : b < w.heap.size := (Array.getElem?_eq_some_iff.1 h.hd).1
theorem StoreAt.tagLt {w : World} {lo b k : Nat} {G : Ghost} {S : StoreL} (h : StoreAt w lo b G S) (ht : G.tag k ≠ .no) : k < w.heap.size := by
  by_cases hk : k < w.heap.size
  · exact hk
  · exact absurd (h.high k (by omega)) ht
/-- A store stays where what bears its marks does. -/
theorem StoreAt.kept {w w' : World} {lo b : Nat} {G : Ghost} {S : StoreL} (h : StoreAt w lo b G S) (hs : w.heap.size ≤ w'.heap.size) (hk : ∀ k, G.tag k ≠ .no → w'.heap[k]? = w.heap[k]?) : StoreAt w' lo b G S where
  hd := (hk b (by rw [h.tb]; simp)).trans h.hd
  tab := h.tab.kept fun k ht => ⟨hk k (by rw [ht]; simp), ht⟩
  ob := own11_later h.ob fun k e => hk k (by rw [h.tr k e]; simp)
  mp := h.mp.kept (hk _ (by rw [h.tm]; simp))
  pi := fun s z ok => pile_kept (h.pi s z ok) (hk _ (by rw [h.tp s z ok]; simp)) fun k e => hk k (by rw [h.tg s z k ok e]; simp)
  tb := h.tb
  tm := h.tm
  tr := h.tr
  tp := h.tp
  tg := h.tg
  low := h.low
  high := fun k hk => h.high k (Nat.le_trans hs hk)
  n1 := h.n1
  n4 := h.n4
  ok := h.ok
theorem StoreAt.later {w w' : World} {lo b : Nat} {G : Ghost} {S : StoreL} (h : StoreAt w lo b G S) (hb : Below w.heap.size w w') : StoreAt w' lo b G S :=
  h.kept hb.size fun k ht => hb.block k (h.tagLt ht)
/-- From one world to another a store alone was changed, and has new blocks. -/
structure Turned (w w' : World) (G G' : Ghost) : Prop where
  chg : ChgF w w' G.tag
  tag : ∀ k, k < w.heap.size → G'.tag k = G.tag k
theorem Turned.of_below {w w' : World} {G : Ghost} (hb : Below w.heap.size w w') : Turned w w' G G := ⟨⟨hb.os, hb.tape, hb.output, hb.size, fun k hk _ => hb.block k hk⟩, fun _ _ => rfl⟩
theorem Turned.trans {w w1 w2 : World} {G G1 G2 : Ghost} (h : Turned w w1 G G1) (k : Turned w1 w2 G1 G2) : Turned w w2 G G2 :=
  ⟨⟨k.chg.os.trans h.chg.os, k.chg.tape.trans h.chg.tape, k.chg.output.trans h.chg.output, Nat.le_trans h.chg.size k.chg.size,
    fun i hi ht => (k.chg.block i (Nat.lt_of_lt_of_le hi h.chg.size) (by rw [h.tag i hi]; exact ht)).trans (h.chg.block i hi ht)⟩,
   fun i hi => (k.tag i (Nat.lt_of_lt_of_le hi h.chg.size)).trans (h.tag i hi)⟩
theorem Turned.below {A w w' : World} {G G' : Ghost} (h : Turned w w' G G') (hA : Below A.heap.size A w) (hlo : ∀ k, G.tag k ≠ .no → A.heap.size ≤ k) : Below A.heap.size A w' :=
  ⟨h.chg.os.trans hA.os, h.chg.tape.trans hA.tape, h.chg.output.trans hA.output, Nat.le_trans hA.size h.chg.size, fun k hk =>
    (h.chg.block k (Nat.lt_of_lt_of_le hk hA.size) (.inl (Classical.byContradiction fun hn => by have := hlo k hn; omega))).trans (hA.block k hk)⟩
/-- Two stores share nothing. -/
def Apart (G H : Ghost) : Prop := ∀ k, G.tag k = .no ∨ H.tag k = .no
theorem Apart.flip {G H : Ghost} (h : Apart G H) : Apart H G := fun k => (h k).symm
theorem StoreAt.far {w w' : World} {lo' b' : Nat} {G G' H : Ghost} {S' : StoreL} (h' : StoreAt w lo' b' H S') (ha : Apart G H) (ht : Turned w w' G G') : StoreAt w' lo' b' H S' ∧ Apart G' H := by
  refine ⟨h'.kept ht.chg.size fun k hk => ht.chg.block k (h'.tagLt hk) (.inl ((ha k).resolve_right hk)), fun k => ?_⟩
  by_cases hk : k < w.heap.size
  · rw [ht.tag k hk]; exact ha k
  · exact .inr (h'.high k (by omega))

def upd {α : Type} (f : Nat → Nat → α) (s z : Nat) (x : α) : Nat → Nat → α := fun s' z' => if s' = s ∧ z' = z then x else f s' z'
theorem upd_same {α : Type} (f : Nat → Nat → α) (s z : Nat) (x : α) : upd f s z x s z = x := by simp [upd]
theorem upd_other {α : Type} (f : Nat → Nat → α) {s z s' z' : Nat} (x : α) (h : ¬ (s' = s ∧ z' = z)) : upd f s z x s' z' = f s' z' := if_neg h
theorem upd_self {α : Type} (f : Nat → Nat → α) (s z : Nat) : upd f s z (f s z) = f := by
  funext s' z'
  unfold upd
  split
  · rename_i h; rw [h.1, h.2]
  · rfl
/-- A pile of the store has changed. -/
theorem StoreAt.pile {w w' : World} {lo b s z : Nat} {G : Ghost} {S : StoreL} {g' : Option Nat} {L' : List Int} (h : StoreAt w lo b G S) (ok : okK S.seats s z) (hp : PileAt w' lo (G.pb s z) g' L') (hc : Chg w w' (G.pb s z) (G.pg s z)) (hn : Newer w (G.pg s z) g') :
    ∃ G', StoreAt w' lo b G' { S with pl := upd S.pl s z L' } ∧ Turned w w' G G' ∧ G'.pb = G.pb ∧ G'.ov = G.ov ∧ G'.mb = G.mb ∧ G'.tv = G.tv := by
  classical
  have htag : ∀ k, k < w.heap.size → g' = some k → G.tag k = .prow s z := fun k hk e => by
    rcases hn with hn | ⟨r, hr, hlt⟩
    · exact h.tg s z k ok (hn ▸ e)
    · rw [hr] at e; injection e with e; omega
  have hnt : ∀ k, k < w.heap.size → (if g' = some k then Tag.prow s z else G.tag k) = G.tag k := fun k hk => by
    split
    · rename_i e; exact (htag k hk e).symm
    · rfl
  have hkeep : ∀ k, k < w.heap.size → G.tag k ≠ .pile s z → G.tag k ≠ .prow s z → w'.heap[k]? = w.heap[k]? := fun k hk h1 h2 =>
    hc.block k hk (fun e => h1 (by rw [e]; exact h.tp s z ok)) (fun e => h2 (h.tg s z k ok e))
  have hk2 : ∀ k, G.tag k ≠ .no → G.tag k ≠ .pile s z → G.tag k ≠ .prow s z → w'.heap[k]? = w.heap[k]? := fun k h0 h1 h2 => hkeep k (h.tagLt h0) h1 h2
  refine ⟨{ G with pg := upd G.pg s z g', tag := fun k => if g' = some k then .prow s z else G.tag k }, ?_, ⟨⟨hc.os, hc.tape, hc.output, hc.size, fun k hk ht => ?_⟩, hnt⟩, rfl, rfl, rfl, rfl⟩
  · have tg2 : ∀ k, G.tag k ≠ .no → (if g' = some k then Tag.prow s z else G.tag k) = G.tag k := fun k hk => hnt k (h.tagLt hk)
    refine ⟨?_, ?_, ?_, ?_, fun s' z' ok' => ?_, ?_, ?_, fun k e => ?_, fun s' z' ok' => ?_, fun s' z' k ok' e => ?_, fun k hk => ?_, fun k hk => ?_, h.n1, h.n4, h.ok⟩
    · exact (hk2 b (by rw [h.tb]; simp) (by rw [h.tb]; simp) (by rw [h.tb]; simp)).trans h.hd
    · exact h.tab.kept fun k ht => ⟨hk2 k (by rw [ht]; simp) (by rw [ht]; simp) (by rw [ht]; simp), by show (if _ then _ else _) = _; rw [tg2 k (by rw [ht]; simp)]; exact ht⟩
    · exact own11_later h.ob fun k e => hk2 k (by rw [h.tr k e]; simp) (by rw [h.tr k e]; simp) (by rw [h.tr k e]; simp)
    · exact h.mp.kept (hk2 _ (by rw [h.tm]; simp) (by rw [h.tm]; simp) (by rw [h.tm]; simp))
    · by_cases he : s' = s ∧ z' = z
      · obtain ⟨rfl, rfl⟩ := he
        show PileAt w' lo (G.pb s' z') (upd G.pg s' z' g' s' z') (upd S.pl s' z' L' s' z')
        rw [upd_same, upd_same]; exact hp
      · show PileAt w' lo (G.pb s' z') (upd G.pg s z g' s' z') (upd S.pl s z L' s' z')
        rw [upd_other _ _ he, upd_other _ _ he]
        refine pile_kept (h.pi s' z' ok') (hk2 _ ?_ ?_ ?_) fun k e => hk2 k ?_ ?_ ?_
        · rw [h.tp s' z' ok']; simp
        · rw [h.tp s' z' ok']; intro e; injection e with e1 e2; exact he ⟨e1, e2⟩
        · rw [h.tp s' z' ok']; simp
        · rw [h.tg s' z' k ok' e]; simp
        · rw [h.tg s' z' k ok' e]; simp
        · rw [h.tg s' z' k ok' e]; intro e; injection e with e1 e2; exact he ⟨e1, e2⟩
    · show (if _ then _ else _) = _; rw [tg2 b (by rw [h.tb]; simp)]; exact h.tb
    · show (if _ then _ else _) = _; rw [tg2 _ (by rw [h.tm]; simp)]; exact h.tm
    · show (if _ then _ else _) = _; rw [tg2 _ (by rw [h.tr k e]; simp)]; exact h.tr k e
    · show (if _ then _ else _) = _; rw [tg2 _ (by rw [h.tp s' z' ok']; simp)]; exact h.tp s' z' ok'
    · by_cases he : s' = s ∧ z' = z
      · obtain ⟨rfl, rfl⟩ := he
        have e : upd G.pg s' z' g' s' z' = some k := e
        rw [upd_same] at e
        exact if_pos e
      · have e : upd G.pg s z g' s' z' = some k := e
        rw [upd_other _ _ he] at e
        show (if _ then _ else _) = _
        rw [tg2 _ (by rw [h.tg s' z' k ok' e]; simp)]; exact h.tg s' z' k ok' e
    · by_cases e : g' = some k
      · exact (hp.row k e).1
      · have hk : (if g' = some k then Tag.prow s z else G.tag k) ≠ .no := hk
        rw [if_neg e] at hk; exact h.low k hk
    · have e : g' ≠ some k := fun e => by have := (hp.row k e).2.1; omega
      show (if _ then _ else _) = _
      rw [if_neg e]; exact h.high k (Nat.le_trans hc.size hk)
  · exact hkeep k hk (by rcases ht with ht | ht <;> rw [ht] <;> simp) (by rcases ht with ht | ht <;> rw [ht] <;> simp)
end Go.Proofs.Ytkhgdfalbmkgcaa
