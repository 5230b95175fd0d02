/- Stores of objects (layer 6) in memory: objects, piles by places (a map of pointers), what belongs to a store, what a store's change leaves as it was. A store in memory: which block is whose (tags), what a change of it leaves as it was; what later worlds keep of it. What a store tells and doesn't change (layer 6): placeOf, pileAt, In, Top, Len, Seats, Get. An object of a store (layer 6): Get, and what it reads; Set writes it. How an object comes (layer 6): card.Has, fresh. Add (layer 6): an object more. -/
import Derived.Test.YtjgjhfeopmakaaaGreatCd
import Derived.Test.YtjgjhfeopmakaaaGreatFh
import Derived.Maps.OwnSet
import Derived.DeepKeys4
import Derived.Deep.RegionHeld3
import Derived.Deep.RegionLaw
namespace Go.Proofs.YtjgjhfeopmakaaaGreat
open Go.RowKit Go.Maps

structure ObjL where
  id : Int
  card : Int
  owner : Int
  zone : Int
  tapped : Bool
  sick : Bool
  hurt : Int
  count : Int
  boost : Int
  block : Int
  attacks : Bool
def ocells (o : ObjL) : List Value := [.int .i64 o.id, .int .i64 o.card, .int .i64 o.owner, .int .i64 o.zone, .bool o.tapped, .bool o.sick, .int .i64 o.hurt, .int .i64 o.count, .int .i64 o.boost, .int .i64 o.block, .bool o.attacks]
def oagg (o : ObjL) : Value := .agg #[.int .i64 o.id, .int .i64 o.card, .int .i64 o.owner, .int .i64 o.zone, .bool o.tapped, .bool o.sick, .int .i64 o.hurt, .int .i64 o.count, .int .i64 o.boost, .int .i64 o.block, .bool o.attacks]
def objsV (l : List ObjL) : List Value := l.flatMap ocells
theorem objsV_len (l : List ObjL) : (objsV l).length = l.length * 11 := by
  induction l with
  | nil => rfl
  | cons o l ih => simp only [objsV, List.flatMap_cons, List.length_append, List.length_cons] at ih ⊢; rw [ih]; simp [ocells]; omega
theorem objsV_append (l r : List ObjL) : objsV (l ++ r) = objsV l ++ objsV r := by simp [objsV]
theorem objsV_at : ∀ (l : List ObjL) (k j : Nat) (h : k < l.length) (_ : j < 11), (objsV l)[k * 11 + j]? = (ocells l[k])[j]?
  | [], k, j, h, _ => by simp at h
  | o :: l, 0, j, _, hj => by
    simp only [objsV, List.flatMap_cons, Nat.zero_mul, Nat.zero_add, List.getElem_cons_zero]
    exact List.getElem?_append_left (by simpa [ocells] using hj)
  | o :: l, k + 1, j, h, hj => by
    have e : (objsV (o :: l))[(k + 1) * 11 + j]? = (objsV l)[k * 11 + j]? := by
      rw [show (k + 1) * 11 + j = k * 11 + j + 11 by omega]
      simp [objsV, ocells]
    rw [e, objsV_at l k j (by simpa using h) hj]
    rfl

/-! Keys of the map of piles. -/
theorem laidOut : laidOutB Tryz.prog = true := by kernel_rfl
theorem place_row : decide (110 < Tryz.prog.types.size) = true := by kernel_rfl
theorem place_law : WideMaps.KeyLaw Tryz.prog 110 := deep_law_laid laidOut (m := 2) (by omega) (of_decide_eq_true place_row) (by kernel_rfl) (by kernel_rfl)
set_option maxRecDepth 100000 in
theorem place_keyed : Keyed Tryz.prog 110 := Keyed.of_law place_law
def Wf (x : Int) : Prop := -9223372036854775808 ≤ x ∧ x ≤ 9223372036854775807
theorem Wf.lit {x : Int} (h : Wf x) : (Lit.int .i64 x).wf = true := WalkArith.wf_i64 (by obtain ⟨h1, h2⟩ := h; omega)
def kv (s z : Int) : Value := .agg #[.int .i64 s, .int .i64 z]
noncomputable def kl (s z : Int) : Lit := (keyOf Tryz.prog 110 (kv s z)).getD (.bool false)
set_option maxRecDepth 100000 in
theorem place_key {s z : Int} (hs : Wf s) (hz : Wf z) : keyOf Tryz.prog 110 (kv s z) = some (kl s z) := by
  have h : ∃ bs, keyOf Tryz.prog 110 (kv s z) = some (.string bs) := by
    have hs := hs.lit
    have hz := hz.lit
    have hu := Tryz.underlying110
    have hc : Tryz.prog.cellsOf 110 = 2 := by kernel_rfl
    have hc3 : Tryz.prog.cellsOf 3 = 1 := by kernel_rfl
    have hu3 := Tryz.underlying3
    have hk : Tryz.prog.keyType 110 = true := by kernel_rfl
    obtain ⟨n, hsz⟩ : ∃ n, Tryz.prog.types.size = n + 1 := ⟨_, (Nat.succ_pred_eq_of_pos (Nat.lt_of_le_of_lt (Nat.zero_le _) (of_decide_eq_true place_row))).symm⟩
    unfold keyOf kv
    rw [hsz, hu]
    simp only [hk]
    simp [Program.keyLits, hu, hc, hc3, hu3, Value.cells, hs, hz, Value.formed, List.mapM_cons]
  obtain ⟨bs, h⟩ := h
  unfold kl
  rw [h]
  rfl
set_option maxRecDepth 100000 in
theorem kl_ne {s z s' z' : Int} (hs : Wf s) (hz : Wf z) (hs' : Wf s') (hz' : Wf z') (h : s ≠ s' ∨ z ≠ z') : kl s z ≠ kl s' z' := by
  intro e
  have h1 := place_key hs hz
  have h2 := place_key hs' hz'
  rw [e] at h1
  have := place_keyed.inj h1 h2
  simp [kv] at this
  omega
set_option maxRecDepth 100000 in
theorem kl_key {s z : Int} (hs : Wf s) (hz : Wf z) : WideAt.IsKeyLit (kl s z) := place_keyed.key (place_key hs hz)
/-- How a pointer to a pile reads: by its block's number. -/
def ptrElem : Value → Option (DataW Unit × List MemPlace)
  | .pointer none => some (.lit (.int .i64 (-1)), [])
  | .pointer (some ⟨b, 0, none⟩) => some (.lit (.int .i64 (b : Int)), [])
  | _ => none
theorem ptrElem_ptr (b : Nat) : ptrElem (.pointer (some ⟨b, 0, none⟩)) = some (.lit (.int .i64 (b : Int)), []) := rfl
theorem ptrElem_nil : ptrElem (.pointer none) = some (.lit (.int .i64 (-1)), []) := rfl
set_option maxRecDepth 100000 in
theorem ptrElem_inv {v : Value} {x : Int} {ps : List MemPlace} (h : ptrElem v = some (.lit (.int .i64 x), ps)) : (v = .pointer none ∧ x = -1) ∨ ∃ b : Nat, v = .pointer (some ⟨b, 0, none⟩) ∧ x = b := by
  unfold ptrElem at h
  split at h
  · injection h with h; injection h with h _; injection h with h; injection h with _ h; exact .inl ⟨rfl, h.symm⟩
  · injection h with h; injection h with h _; injection h with h; injection h with _ h; exact .inr ⟨_, rfl, h.symm⟩
  · cases h
/-- Places that there are, in a store of n seats: Field and Stack at seat 0 alone. -/
def okK (n s z : Nat) : Prop := s < n ∧ 1 ≤ z ∧ z ≤ 7 ∧ (z = 3 ∨ z = 4 → s = 0)
instance (n s z : Nat) : Decidable (okK n s z) := by unfold okK; infer_instance
def okI (n : Nat) (s z : Int) : Prop := 0 ≤ s ∧ 0 ≤ z ∧ okK n s.toNat z.toNat
instance (n : Nat) (s z : Int) : Decidable (okI n s z) := by unfold okI; infer_instance
theorem okI_nat {n s z : Nat} : okI n (s : Int) (z : Int) ↔ okK n s z := by unfold okI; simp
theorem okK.wf {n s z : Nat} (h : okK n s z) (hn : n ≤ 4) : Wf (s : Int) ∧ Wf (z : Int) := by
  obtain ⟨h1, h2, h3, _⟩ := h
  exact ⟨⟨by omega, by omega⟩, ⟨by omega, by omega⟩⟩
/-- What a map of piles holds: just the places of n seats, each with its pile's block. -/
structure MapD (D : DataW Unit) (n : Nat) (pb : Nat → Nat → Nat) : Prop where
  has : ∀ s z : Int, Wf s → Wf z → Maps.has D (kl s z) = decide (okI n s z)
  val : ∀ s z : Nat, okK n s z → D.atKey (kl s z) (.lit (.int .i64 (-1))) = .lit (.int .i64 (pb s z : Int))
  only : ∀ k, Maps.has D k = true → ∃ s z : Nat, okK n s z ∧ k = kl s z
def MapAt (w : World) (mb n : Nat) (pb : Nat → Nat → Nat) : Prop := ∃ D, w.ownsMap Tryz.prog 110 ptrElem mb 1000 D ∧ Maps.size D ≤ 100 ∧ MapD D n pb
theorem MapAt.kept {w w' : World} {mb n : Nat} {pb : Nat → Nat → Nat} (h : MapAt w mb n pb) (hk : w'.heap[mb]? = w.heap[mb]?) : MapAt w' mb n pb := by
  obtain ⟨D, ⟨es, clock, hb, r⟩, h2⟩ := h
  exact ⟨D, ⟨es, clock, hk.trans hb, r⟩, h2⟩
theorem MapAt.lt {w : World} {mb n : Nat} {pb : Nat → Nat → Nat} (h : MapAt w mb n pb) : mb < w.heap.size := h.choose_spec.1.lt
theorem zero_ptr (w : World) : (zeroValue 97).run Tryz.prog w = .ok (.pointer none) w := by kernel_rfl
/-- The pile that a look-up tells: none, if there is no such place. -/
def ptrOf (n : Nat) (pb : Nat → Nat → Nat) (s z : Int) : Value := if okI n s z then .pointer (some ⟨pb s.toNat z.toNat, 0, none⟩) else .pointer none
set_option maxRecDepth 100000 in
theorem MapAt.look {w : World} {mb n : Nat} {pb : Nat → Nat → Nat} (h : MapAt w mb n pb) {s z : Int} (hs : Wf s) (hz : Wf z) :
    (Instr.lookup 76 (.map (some mb)) (kv s z) false).run Tryz.prog w = .ok (ptrOf n pb s z) w := by
  obtain ⟨D, ho, _, hd⟩ := h
  obtain ⟨v, ps, hrun, hv⟩ := ho.lookup place_keyed Tryz.underlying76 (zero_ptr w) ptrElem_nil (place_key hs hz)
  rw [hrun]
  congr 1
  unfold ptrOf
  by_cases hk : okI n s z
  · rw [if_pos hk]
    obtain ⟨h1, h2, h3⟩ := hk
    have ha := hd.val _ _ h3
    rw [Int.toNat_of_nonneg h1, Int.toNat_of_nonneg h2] at ha
    rw [ha] at hv
    rcases ptrElem_inv hv with ⟨_, h⟩ | ⟨b, rfl, h⟩
    · omega
    · rw [show b = pb s.toNat z.toNat by omega]
  · rw [if_neg hk]
    have hh := hd.has s z hs hz
    rw [decide_eq_false hk] at hh
    rw [atKey_of_not_has hh] at hv
    rcases ptrElem_inv hv with ⟨h, _⟩ | ⟨b, rfl, h⟩
    · exact h
    · omega
end Go.Proofs.YtjgjhfeopmakaaaGreat
namespace Go.Proofs.YtjgjhfeopmakaaaGreat
open Go.RowKit Go.Maps

/-- Whose a block is: nobody's, the table's, the store's own, the map's, the objects', a pile's, the row's of a pile. -/
inductive Tag
  | no | tab | head | map | row
  | pile (s z : Nat)
  | prow (s z : Nat)
structure Ghost where
  tv : Value
  ov : Value
  mb : Nat
  pb : Nat → Nat → Nat
  pg : Nat → Nat → Option Nat
  tag : Nat → Tag
structure StoreL where
  T : List Crd.CardL
  seats : Nat
  objs : List ObjL
  pl : Nat → Nat → List Int
/-- A table that nobody writes: it stays as long as the blocks that bear its mark do. -/
def TabAt (w : World) (tag : Nat → Tag) (v : Value) (T : List Crd.CardL) : Prop := ∀ W' : World, (∀ k, tag k = .tab → W'.heap[k]? = w.heap[k]?) → Crd.CardsAt W' v T
theorem TabAt.is {w : World} {tag : Nat → Tag} {v : Value} {T : List Crd.CardL} (h : TabAt w tag v T) : Crd.CardsAt w v T := h w fun _ _ => rfl
theorem TabAt.kept {w w' : World} {tag tag' : Nat → Tag} {v : Value} {T : List Crd.CardL} (h : TabAt w tag v T) (hk : ∀ k, tag k = .tab → w'.heap[k]? = w.heap[k]? ∧ tag' k = .tab) : TabAt w' tag' v T :=
  fun W' hW => h W' fun k ht => (hW k (hk k ht).2).trans (hk k ht).1
/-- All that lay there but what bears a mark that may be written is as it was. -/
structure ChgF (w w' : World) (tag : Nat → Tag) : Prop where
  os : w'.os = w.os
  tape : w'.tape = w.tape
  output : w'.output = w.output
  size : w.heap.size ≤ w'.heap.size
  block : ∀ k, k < w.heap.size → tag k = .no ∨ tag k = .tab → w'.heap[k]? = w.heap[k]?
structure StoreAt (w : World) (lo b : Nat) (G : Ghost) (S : StoreL) : Prop where
  hd : w.heap[b]? = some (.cells #[G.tv, .int .i64 S.seats, G.ov, .map (some G.mb)] 78 (0, 0))
  tab : TabAt w G.tag G.tv S.T
  ob : w.ownsRow lo 30 11 G.ov S.objs.length (objsV S.objs)
  mp : MapAt w G.mb S.seats G.pb
  pi : ∀ s z, okK S.seats s z → PileAt w lo (G.pb s z) (G.pg s z) (S.pl s z)
  tb : G.tag b = .head
  tm : G.tag G.mb = .map
  tr : ∀ k, G.ov.ownBlock = some k → G.tag k = .row
  tp : ∀ s z, okK S.seats s z → G.tag (G.pb s z) = .pile s z
  tg : ∀ s z k, okK S.seats s z → G.pg s z = some k → G.tag k = .prow s z
  low : ∀ k, G.tag k ≠ .no → lo ≤ k
  high : ∀ k, w.heap.size ≤ k → G.tag k = .no
  n1 : 1 ≤ S.seats
  n4 : S.seats ≤ 4
  ok : Crd.tableE S.T = 0
theorem own11_later {w w' : World} {base sz : Nat} {t : TypeId} {v : Value} {n : Nat} {xs : List Value} (h : w.ownsRow base t sz v n xs) (hb : ∀ k, v.ownBlock = some k → w'.heap[k]? = w.heap[k]?) : w'.ownsRow base t sz v n xs := by
  refine ⟨h.1, ?_⟩
  rcases h.2 with h2 | ⟨g, cap, cur, e, hb2, hg, r⟩
  · exact .inl h2
  · exact .inr ⟨g, cap, cur, e, hb2, (hb g (by rw [e]; rfl)).trans hg, r⟩
theorem pile_kept {w w' : World} {lo b : Nat} {g : Option Nat} {L : List Int} (h : PileAt w lo b g L) (h1 : w'.heap[b]? = w.heap[b]?) (h2 : ∀ k, g = some k → w'.heap[k]? = w.heap[k]?) : PileAt w' lo b g L := by
  obtain ⟨v, p1, p2, p3, p4⟩ := h
  exact ⟨v, h1.trans p1, p2, p3, own11_later p4 (fun k hk => h2 k (p2 ▸ hk))⟩
theorem StoreAt.lt {w : World} {lo b : Nat} {G : Ghost} {S : StoreL} (h : StoreAt w lo b G S) : b < w.heap.size := (Array.getElem?_eq_some_iff.1 h.hd).1
theorem StoreAt.tagLt {w : World} {lo b k : Nat} {G : Ghost} {S : StoreL} (h : StoreAt w lo b G S) (ht : G.tag k ≠ .no) : k < w.heap.size := by
  by_cases hk : k < w.heap.size
  · exact hk
  · exact absurd (h.high k (by omega)) ht
/-- A store stays where what bears its marks does. -/
theorem StoreAt.kept {w w' : World} {lo b : Nat} {G : Ghost} {S : StoreL} (h : StoreAt w lo b G S) (hs : w.heap.size ≤ w'.heap.size) (hk : ∀ k, G.tag k ≠ .no → w'.heap[k]? = w.heap[k]?) : StoreAt w' lo b G S where
  hd := (hk b (by rw [h.tb]; simp)).trans h.hd
  tab := h.tab.kept fun k ht => ⟨hk k (by rw [ht]; simp), ht⟩
  ob := own11_later h.ob fun k e => hk k (by rw [h.tr k e]; simp)
  mp := h.mp.kept (hk _ (by rw [h.tm]; simp))
  pi := fun s z ok => pile_kept (h.pi s z ok) (hk _ (by rw [h.tp s z ok]; simp)) fun k e => hk k (by rw [h.tg s z k ok e]; simp)
  tb := h.tb
  tm := h.tm
  tr := h.tr
  tp := h.tp
  tg := h.tg
  low := h.low
  high := fun k hk => h.high k (Nat.le_trans hs hk)
  n1 := h.n1
  n4 := h.n4
  ok := h.ok
theorem StoreAt.later {w w' : World} {lo b : Nat} {G : Ghost} {S : StoreL} (h : StoreAt w lo b G S) (hb : Below w.heap.size w w') : StoreAt w' lo b G S :=
  h.kept hb.size fun k ht => hb.block k (h.tagLt ht)
/-- From one world to another a store alone was changed, and has new blocks. -/
structure Turned (w w' : World) (G G' : Ghost) : Prop where
  chg : ChgF w w' G.tag
  tag : ∀ k, k < w.heap.size → G'.tag k = G.tag k
theorem Turned.of_below {w w' : World} {G : Ghost} (hb : Below w.heap.size w w') : Turned w w' G G := ⟨⟨hb.os, hb.tape, hb.output, hb.size, fun k hk _ => hb.block k hk⟩, fun _ _ => rfl⟩
theorem Turned.trans {w w1 w2 : World} {G G1 G2 : Ghost} (h : Turned w w1 G G1) (k : Turned w1 w2 G1 G2) : Turned w w2 G G2 :=
  ⟨⟨k.chg.os.trans h.chg.os, k.chg.tape.trans h.chg.tape, k.chg.output.trans h.chg.output, Nat.le_trans h.chg.size k.chg.size,
    fun i hi ht => (k.chg.block i (Nat.lt_of_lt_of_le hi h.chg.size) (by rw [h.tag i hi]; exact ht)).trans (h.chg.block i hi ht)⟩,
   fun i hi => (k.tag i (Nat.lt_of_lt_of_le hi h.chg.size)).trans (h.tag i hi)⟩
theorem Turned.below {A w w' : World} {G G' : Ghost} (h : Turned w w' G G') (hA : Below A.heap.size A w) (hlo : ∀ k, G.tag k ≠ .no → A.heap.size ≤ k) : Below A.heap.size A w' :=
  ⟨h.chg.os.trans hA.os, h.chg.tape.trans hA.tape, h.chg.output.trans hA.output, Nat.le_trans hA.size h.chg.size, fun k hk =>
    (h.chg.block k (Nat.lt_of_lt_of_le hk hA.size) (.inl (Classical.byContradiction fun hn => by have := hlo k hn; omega))).trans (hA.block k hk)⟩
/-- Two stores share nothing. -/
def Apart (G H : Ghost) : Prop := ∀ k, G.tag k = .no ∨ H.tag k = .no
theorem Apart.flip {G H : Ghost} (h : Apart G H) : Apart H G := fun k => (h k).symm
theorem StoreAt.far {w w' : World} {lo' b' : Nat} {G G' H : Ghost} {S' : StoreL} (h' : StoreAt w lo' b' H S') (ha : Apart G H) (ht : Turned w w' G G') : StoreAt w' lo' b' H S' ∧ Apart G' H := by
  refine ⟨h'.kept ht.chg.size fun k hk => ht.chg.block k (h'.tagLt hk) (.inl ((ha k).resolve_right hk)), fun k => ?_⟩
  by_cases hk : k < w.heap.size
  · rw [ht.tag k hk]; exact ha k
  · exact .inr (h'.high k (by omega))

def upd {α : Type} (f : Nat → Nat → α) (s z : Nat) (x : α) : Nat → Nat → α := fun s' z' => if s' = s ∧ z' = z then x else f s' z'
theorem upd_same {α : Type} (f : Nat → Nat → α) (s z : Nat) (x : α) : upd f s z x s z = x := by simp [upd]
theorem upd_other {α : Type} (f : Nat → Nat → α) {s z s' z' : Nat} (x : α) (h : ¬ (s' = s ∧ z' = z)) : upd f s z x s' z' = f s' z' := if_neg h
theorem upd_self {α : Type} (f : Nat → Nat → α) (s z : Nat) : upd f s z (f s z) = f := by
  funext s' z'
  unfold upd
  split
  · rename_i h; rw [h.1, h.2]
  · rfl
/-- A pile of the store has changed. -/
theorem StoreAt.pile {w w' : World} {lo b s z : Nat} {G : Ghost} {S : StoreL} {g' : Option Nat} {L' : List Int} (h : StoreAt w lo b G S) (ok : okK S.seats s z) (hp : PileAt w' lo (G.pb s z) g' L') (hc : Chg w w' (G.pb s z) (G.pg s z)) (hn : Newer w (G.pg s z) g') :
    ∃ G', StoreAt w' lo b G' { S with pl := upd S.pl s z L' } ∧ Turned w w' G G' ∧ G'.pb = G.pb ∧ G'.ov = G.ov ∧ G'.mb = G.mb ∧ G'.tv = G.tv := by
  classical
  have htag : ∀ k, k < w.heap.size → g' = some k → G.tag k = .prow s z := fun k hk e => by
    rcases hn with hn | ⟨r, hr, hlt⟩
    · exact h.tg s z k ok (hn ▸ e)
    · rw [hr] at e; injection e with e; omega
  have hnt : ∀ k, k < w.heap.size → (if g' = some k then Tag.prow s z else G.tag k) = G.tag k := fun k hk => by
    split
    · rename_i e; exact (htag k hk e).symm
    · rfl
  have hkeep : ∀ k, k < w.heap.size → G.tag k ≠ .pile s z → G.tag k ≠ .prow s z → w'.heap[k]? = w.heap[k]? := fun k hk h1 h2 =>
    hc.block k hk (fun e => h1 (by rw [e]; exact h.tp s z ok)) (fun e => h2 (h.tg s z k ok e))
  have hk2 : ∀ k, G.tag k ≠ .no → G.tag k ≠ .pile s z → G.tag k ≠ .prow s z → w'.heap[k]? = w.heap[k]? := fun k h0 h1 h2 => hkeep k (h.tagLt h0) h1 h2
  refine ⟨{ G with pg := upd G.pg s z g', tag := fun k => if g' = some k then .prow s z else G.tag k }, ?_, ⟨⟨hc.os, hc.tape, hc.output, hc.size, fun k hk ht => ?_⟩, hnt⟩, rfl, rfl, rfl, rfl⟩
  · have tg2 : ∀ k, G.tag k ≠ .no → (if g' = some k then Tag.prow s z else G.tag k) = G.tag k := fun k hk => hnt k (h.tagLt hk)
    refine ⟨?_, ?_, ?_, ?_, fun s' z' ok' => ?_, ?_, ?_, fun k e => ?_, fun s' z' ok' => ?_, fun s' z' k ok' e => ?_, fun k hk => ?_, fun k hk => ?_, h.n1, h.n4, h.ok⟩
    · exact (hk2 b (by rw [h.tb]; simp) (by rw [h.tb]; simp) (by rw [h.tb]; simp)).trans h.hd
    · exact h.tab.kept fun k ht => ⟨hk2 k (by rw [ht]; simp) (by rw [ht]; simp) (by rw [ht]; simp), by show (if _ then _ else _) = _; rw [tg2 k (by rw [ht]; simp)]; exact ht⟩
    · exact own11_later h.ob fun k e => hk2 k (by rw [h.tr k e]; simp) (by rw [h.tr k e]; simp) (by rw [h.tr k e]; simp)
    · exact h.mp.kept (hk2 _ (by rw [h.tm]; simp) (by rw [h.tm]; simp) (by rw [h.tm]; simp))
    · by_cases he : s' = s ∧ z' = z
      · obtain ⟨rfl, rfl⟩ := he
        show PileAt w' lo (G.pb s' z') (upd G.pg s' z' g' s' z') (upd S.pl s' z' L' s' z')
        rw [upd_same, upd_same]; exact hp
      · show PileAt w' lo (G.pb s' z') (upd G.pg s z g' s' z') (upd S.pl s z L' s' z')
        rw [upd_other _ _ he, upd_other _ _ he]
        refine pile_kept (h.pi s' z' ok') (hk2 _ ?_ ?_ ?_) fun k e => hk2 k ?_ ?_ ?_
        · rw [h.tp s' z' ok']; simp
        · rw [h.tp s' z' ok']; intro e; injection e with e1 e2; exact he ⟨e1, e2⟩
        · rw [h.tp s' z' ok']; simp
        · rw [h.tg s' z' k ok' e]; simp
        · rw [h.tg s' z' k ok' e]; simp
        · rw [h.tg s' z' k ok' e]; intro e; injection e with e1 e2; exact he ⟨e1, e2⟩
    · show (if _ then _ else _) = _; rw [tg2 b (by rw [h.tb]; simp)]; exact h.tb
    · show (if _ then _ else _) = _; rw [tg2 _ (by rw [h.tm]; simp)]; exact h.tm
    · show (if _ then _ else _) = _; rw [tg2 _ (by rw [h.tr k e]; simp)]; exact h.tr k e
    · show (if _ then _ else _) = _; rw [tg2 _ (by rw [h.tp s' z' ok']; simp)]; exact h.tp s' z' ok'
    · by_cases he : s' = s ∧ z' = z
      · obtain ⟨rfl, rfl⟩ := he
        have e : upd G.pg s' z' g' s' z' = some k := e
        rw [upd_same] at e
        exact if_pos e
      · have e : upd G.pg s z g' s' z' = some k := e
        rw [upd_other _ _ he] at e
        show (if _ then _ else _) = _
        rw [tg2 _ (by rw [h.tg s' z' k ok' e]; simp)]; exact h.tg s' z' k ok' e
    · by_cases e : g' = some k
      · exact (hp.row k e).1
      · have hk : (if g' = some k then Tag.prow s z else G.tag k) ≠ .no := hk
        rw [if_neg e] at hk; exact h.low k hk
    · have e : g' ≠ some k := fun e => by have := (hp.row k e).2.1; omega
      show (if _ then _ else _) = _
      rw [if_neg e]; exact h.high k (Nat.le_trans hc.size hk)
  · exact hkeep k hk (by rcases ht with ht | ht <;> rw [ht] <;> simp) (by rcases ht with ht | ht <;> rw [ht] <;> simp)
end Go.Proofs.YtjgjhfeopmakaaaGreat
namespace Go.Proofs.YtjgjhfeopmakaaaGreat
open Go.RowKit Go.Maps

def canS (s z : Int) : Int := if z = 3 ∨ z = 4 then 0 else s
theorem canS_wf {s z : Int} (hs : Wf s) : Wf (canS s z) := by
  unfold canS
  split
  · exact ⟨by decide, by decide⟩
  · exact hs
set_option maxRecDepth 100000 in
set_option maxHeartbeats 2000000 in
theorem placeOf_any (s z : Int) (w : World) : Calls Tryz.prog 81 #[.int .i64 s, .int .i64 z] w (RetV w (kv (canS s z) z)) := by
  by_cases h3 : z = 3
  · subst h3
    go_enter Tryz.func81, Tryz.ntmps81
    go_wp2
    refine bodyPost_ret (by simp [results, Tryz.results81, go_sem]; rfl) rfl ⟨rfl, ?_⟩
    exact below_new w _
  · by_cases h4 : z = 4
    · subst h4
      go_enter Tryz.func81, Tryz.ntmps81
      go_wp2
      refine bodyPost_ret (by simp [results, Tryz.results81, go_sem]; rfl) rfl ⟨rfl, ?_⟩
      exact below_new w _
    · have e3 : (z == 3) = false := beq_eq_false_iff_ne.2 h3
      have e4 : (z == 4) = false := beq_eq_false_iff_ne.2 h4
      have hc : canS s z = s := if_neg (by omega)
      rw [hc]
      go_enter Tryz.func81, Tryz.ntmps81
      go_wp2
      refine bodyPost_ret (by simp [results, Tryz.results81, go_sem]; rfl) rfl ⟨rfl, ?_⟩
      exact below_new w _
set_option maxRecDepth 100000 in
theorem pileAt_none (s z : Int) (w : World) : Calls Tryz.prog 45 #[.pointer none, .int .i64 s, .int .i64 z] w (Same w (.pointer none)) := by
  go_enter Tryz.func45, Tryz.ntmps45
  go_wp2
  go_ret
  exact ⟨rfl, rfl⟩
set_option maxRecDepth 100000 in
set_option maxHeartbeats 2000000 in
theorem pileAt_any {w : World} {lo b : Nat} {G : Ghost} {S : StoreL} (h : StoreAt w lo b G S) {s z : Int} (hs : Wf s) (hz : Wf z) :
    Calls Tryz.prog 45 #[.pointer (some ⟨b, 0, none⟩), .int .i64 s, .int .i64 z] w (RetV w (ptrOf S.seats G.pb (canS s z) z)) := by
  have c3 : w.cell? ⟨b, 3, none⟩ = some (.map (some G.mb)) := by rw [cell_of_row w b 3 _ _ _ h.hd]; rfl
  have HM := Lib.hid (fun (w' : World) (hb : Below w.heap.size w w') => (h.mp.kept (hb.block _ h.mp.lt)).look (canS_wf (z := z) hs) hz)
  have HH := Lib.hid h
  clear h
  go_enter Tryz.func45, Tryz.ntmps45
  go_wp2
  go_region_with ((go_at_call 81; refine (placeOf_any s z _).mono ?_; rintro e w1 ⟨rfl, hb1⟩; have hb1' := stepB (below_drewN (Below.refl w.heap.size w) _) hb1; have hl := HM.out w1 hb1'; have c3' := cell_stays hb1' c3))
  all_goals (go_wp2; go_ret; exact ⟨rfl, by assumption⟩)
/-- A list of its own. -/
theorem okK_of {n : Nat} {s z : Int} (h : okI n s z) : okK n s.toNat z.toNat := h.2.2
def inL (S : StoreL) (s z : Int) : List Int := if okI S.seats (canS s z) z then S.pl (canS s z).toNat z.toNat else []
def ShortS (S : StoreL) : Prop := S.objs.length ≤ 1000 ∧ ∀ s z, okK S.seats s z → (S.pl s z).length ≤ 1000
theorem listNil_any (w : World) : Calls Tryz.prog 97 #[.pointer none] w (Same w (.slice none 0 0)) := by
  go_enter Tryz.func97, Tryz.ntmps97
  go_wp2
  go_ret
  exact ⟨rfl, rfl⟩
theorem list_ptr {w : World} {lo b : Nat} {G : Ghost} {S : StoreL} (h : StoreAt w lo b G S) (hS : ShortS S) (s z : Int) :
    Calls Tryz.prog 97 #[ptrOf S.seats G.pb (canS s z) z] w (RetList w (inL S s z)) := by
  unfold ptrOf inL
  by_cases hk : okI S.seats (canS s z) z
  · rw [if_pos hk, if_pos hk]
    exact list_any (h.pi _ _ hk.2.2) (hS.2 _ _ hk.2.2)
  · rw [if_neg hk, if_neg hk]
    refine (listNil_any w).mono ?_
    rintro e w' ⟨rfl, rfl⟩
    exact ⟨_, rfl, World.ownsRow_nil _ _ _ _, Below.refl _ _⟩
/-- The first one, if there is one. -/
theorem lenNil_any (w : World) : Calls Tryz.prog 85 #[.pointer none] w (Same w (.int .i64 0)) := by
  go_enter Tryz.func85, Tryz.ntmps85
  go_wp2
  go_ret
  exact ⟨rfl, rfl⟩
def topL (S : StoreL) (s z : Int) : Value := .tuple #[.int .i64 ((inL S s z).headD 0), .bool (decide (0 < (inL S s z).length))]
end Go.Proofs.YtjgjhfeopmakaaaGreat
namespace Go.Proofs.YtjgjhfeopmakaaaGreat
open Go.RowKit Go.Maps

def zeroO : ObjL := ⟨0, 0, 0, 0, false, false, 0, 0, 0, 0, false⟩
/-- An object's cells at a place. -/
def ObjCells (w : World) (g o : Nat) (x : ObjL) : Prop :=
  w.cell? ⟨g, o, none⟩ = some (.int .i64 x.id) ∧ w.cell? ⟨g, o + 1, none⟩ = some (.int .i64 x.card) ∧ w.cell? ⟨g, o + 2, none⟩ = some (.int .i64 x.owner) ∧ w.cell? ⟨g, o + 3, none⟩ = some (.int .i64 x.zone) ∧
  w.cell? ⟨g, o + 4, none⟩ = some (.bool x.tapped) ∧ w.cell? ⟨g, o + 5, none⟩ = some (.bool x.sick) ∧ w.cell? ⟨g, o + 6, none⟩ = some (.int .i64 x.hurt) ∧ w.cell? ⟨g, o + 7, none⟩ = some (.int .i64 x.count) ∧
  w.cell? ⟨g, o + 8, none⟩ = some (.int .i64 x.boost) ∧ w.cell? ⟨g, o + 9, none⟩ = some (.int .i64 x.block) ∧ w.cell? ⟨g, o + 10, none⟩ = some (.bool x.attacks)
theorem ObjCells.later {w w' : World} {g o : Nat} {x : ObjL} (h : ObjCells w g o x) (hb : Below w.heap.size w w') : ObjCells w' g o x := by
  obtain ⟨c0, c1, c2, c3, c4, c5, c6, c7, c8, c9, c10⟩ := h
  exact ⟨cell_stays hb c0, cell_stays hb c1, cell_stays hb c2, cell_stays hb c3, cell_stays hb c4, cell_stays hb c5, cell_stays hb c6, cell_stays hb c7, cell_stays hb c8, cell_stays hb c9, cell_stays hb c10⟩
/-- Objects in a row of their own. -/
theorem own_obj {w : World} {lo : Nat} {v : Value} {l : List ObjL} (h : w.ownsRow lo 30 11 v l.length (objsV l)) (k : Nat) (hk : k < l.length) :
    ∃ g cap, v = .slice (some ⟨g, 0, none⟩) l.length cap ∧ ObjCells w g (k * 11) l[k] ∧ (∀ j, w.frozen? ⟨g, j, none⟩ = false) := by
  rcases h.2 with ⟨_, h0⟩ | ⟨g, cap, cur, e, hb, hg, hn, hm, hs, ht⟩
  · omega
  · refine ⟨g, cap, e, ?_, fun j => frozen_of_row w g j _ _ hg⟩
    have hc : ∀ j (hj : j < 11), w.cell? ⟨g, k * 11 + j, none⟩ = (ocells l[k])[j]? := fun j hj => by
      rw [← objsV_at l k j hk hj, cell_of_row w g (k * 11 + j) _ _ (0, 0) hg, ← ht, List.getElem?_take_of_lt (by omega)]
      simp
    exact ⟨hc 0 (by decide), hc 1 (by decide), hc 2 (by decide), hc 3 (by decide), hc 4 (by decide), hc 5 (by decide), hc 6 (by decide), hc 7 (by decide), hc 8 (by decide), hc 9 (by decide), hc 10 (by decide)⟩
theorem own_form {w : World} {lo sz : Nat} {t : TypeId} {v : Value} {n : Nat} {xs : List Value} (h : w.ownsRow lo t sz v n xs) : ∃ xa xc, v = .slice xa n xc := by
  rcases h.2 with ⟨e, e2⟩ | ⟨g, cap, cur, e, _⟩
  · exact ⟨none, 0, by rw [e, e2]⟩
  · exact ⟨_, _, e⟩
def RetGet (w : World) (o : ObjL) (n : Int) (e : Ending) (w' : World) : Prop := e = .returned (.tuple #[oagg o, .int .i64 n]) ∧ Below w.heap.size w w'
set_option maxRecDepth 100000 in
set_option maxHeartbeats 2000000 in
theorem get_in {w : World} {lo b : Nat} {G : Ghost} {S : StoreL} (h : StoreAt w lo b G S) (hS : S.objs.length ≤ 1000) (k : Nat) (hk : k < S.objs.length) :
    Calls Tryz.prog 9 #[.pointer (some ⟨b, 0, none⟩), .int .i64 ((k : Int) + 1)] w (RetGet w S.objs[k] 0) := by
  obtain ⟨g, cap, hv, hc, _⟩ := own_obj h.ob k hk
  have c2 : w.cell? ⟨b, 2, none⟩ = some (.slice (some ⟨g, 0, none⟩) S.objs.length cap) := by rw [cell_of_row w b 2 _ _ _ h.hd, ← hv]; rfl
  obtain ⟨x, hx⟩ : ∃ x, S.objs[k] = x := ⟨_, rfl⟩
  rw [hx] at hc ⊢
  obtain ⟨o0, o1, o2, o3, o4, o5, o6, o7, o8, o9, o10⟩ := hc
  have d0 : decide ((k : Int) + 1 < 1) = false := decide_eq_false (by omega)
  have d1 : decide ((S.objs.length : Int) < (k : Int) + 1) = false := decide_eq_false (by omega)
  have d2 : (k : Int) + 1 - 1 = k := by omega
  obtain ⟨W, hW⟩ : ∃ W, w.alloc (.cells #[.int .i64 0, .int .i64 0, .int .i64 0, .int .i64 0, .bool false, .bool false, .int .i64 0, .int .i64 0, .int .i64 0, .int .i64 0, .bool false] 30) = W := ⟨_, rfl⟩
  have hb : Below w.heap.size w W := hW ▸ below_new w _
  have c2' := cell_stays hb c2
  have o0' := cell_stays hb o0
  have o1' := cell_stays hb o1
  have o2' := cell_stays hb o2
  have o3' := cell_stays hb o3
  have o4' := cell_stays hb o4
  have o5' := cell_stays hb o5
  have o6' := cell_stays hb o6
  have o7' := cell_stays hb o7
  have o8' := cell_stays hb o8
  have o9' := cell_stays hb o9
  have o10' := cell_stays hb o10
  subst hW
  clear h hv hx c2 o0 o1 o2 o3 o4 o5 o6 o7 o8 o9 o10
  go_enter Tryz.func9, Tryz.ntmps9
  go_wp2
  refine bodyPost_ret (by simp [results, Tryz.results9, go_sem]; rfl) rfl ⟨rfl, ?_⟩
  exact below_new w _
theorem get_out {w : World} {lo b : Nat} {G : Ghost} {S : StoreL} (h : StoreAt w lo b G S) (_hS : S.objs.length ≤ 1000) (i : Int) (hi : i < 1 ∨ (S.objs.length : Int) < i) :
    Calls Tryz.prog 9 #[.pointer (some ⟨b, 0, none⟩), .int .i64 i] w (RetGet w zeroO 7) := by
  obtain ⟨xa, xc, hv⟩ := own_form h.ob
  have c2 : w.cell? ⟨b, 2, none⟩ = some (.slice xa S.objs.length xc) := by rw [cell_of_row w b 2 _ _ _ h.hd, ← hv]; rfl
  obtain ⟨W, hW⟩ : ∃ W, w.alloc (.cells #[.int .i64 0, .int .i64 0, .int .i64 0, .int .i64 0, .bool false, .bool false, .int .i64 0, .int .i64 0, .int .i64 0, .int .i64 0, .bool false] 30) = W := ⟨_, rfl⟩
  have hb : Below w.heap.size w W := hW ▸ below_new w _
  have c2' := cell_stays hb c2
  subst hW
  clear h hv c2
  by_cases h1 : i < 1
  · go_enter Tryz.func9, Tryz.ntmps9
    go_wp2
    refine bodyPost_ret (by simp [results, Tryz.results9, go_sem]; rfl) rfl ⟨rfl, ?_⟩
    exact below_new w _
  · have d0 : decide (i < 1) = false := decide_eq_false h1
    have d1 : decide ((S.objs.length : Int) < i) = true := decide_eq_true (by omega)
    go_enter Tryz.func9, Tryz.ntmps9
    go_wp2
    refine bodyPost_ret (by simp [results, Tryz.results9, go_sem]; rfl) rfl ⟨rfl, ?_⟩
    exact below_new w _
theorem get_nil (i : Int) (w : World) : Calls Tryz.prog 9 #[.pointer none, .int .i64 i] w (RetGet w zeroO 1) := by
  go_enter Tryz.func9, Tryz.ntmps9
  go_wp2
  refine bodyPost_ret (by simp [results, Tryz.results9, go_sem]; rfl) rfl ⟨rfl, ?_⟩
  exact below_new w _
/-- The objects' row is another one, or holds others. -/
theorem StoreAt.objsTo {w w' : World} {lo b : Nat} {G : Ghost} {S : StoreL} {v' : Value} {l' : List ObjL} (h : StoreAt w lo b G S) (hr : w'.ownsRow lo 30 11 v' l'.length (objsV l'))
    (hd : w'.heap[b]? = some (.cells #[G.tv, .int .i64 S.seats, v', .map (some G.mb)] 78 (0, 0)))
    (hos : w'.os = w.os) (htape : w'.tape = w.tape) (hout : w'.output = w.output) (hsz : w.heap.size ≤ w'.heap.size)
    (hk : ∀ k, k < w.heap.size → k ≠ b → G.ov.ownBlock ≠ some k → w'.heap[k]? = w.heap[k]?) (hn : ∀ k, v'.ownBlock = some k → G.ov.ownBlock = some k ∨ w.heap.size ≤ k) :
    ∃ G', StoreAt w' lo b G' { S with objs := l' } ∧ Turned w w' G G' ∧ G'.pb = G.pb ∧ G'.ov = v' ∧ G'.mb = G.mb ∧ G'.tv = G.tv := by
  classical
  have hnt : ∀ k, k < w.heap.size → (if v'.ownBlock = some k then Tag.row else G.tag k) = G.tag k := fun k hk => by
    split
    · rename_i e
      rcases hn k e with e | e
      · exact (h.tr k e).symm
      · omega
    · rfl
  have tg2 : ∀ k, G.tag k ≠ .no → (if v'.ownBlock = some k then Tag.row else G.tag k) = G.tag k := fun k hk => hnt k (h.tagLt hk)
  have hkeep : ∀ k, G.tag k ≠ .no → G.tag k ≠ .head → G.tag k ≠ .row → w'.heap[k]? = w.heap[k]? := fun k h0 h1 h2 =>
    hk k (h.tagLt h0) (fun e => h1 (by rw [e]; exact h.tb)) (fun e => h2 (h.tr k e))
  refine ⟨{ G with ov := v', tag := fun k => if v'.ownBlock = some k then .row else G.tag k }, ?_, ⟨⟨hos, htape, hout, hsz, fun k hk' ht => ?_⟩, hnt⟩, rfl, rfl, rfl, rfl⟩
  · refine ⟨hd, ?_, hr, ?_, fun s z ok => ?_, ?_, ?_, fun k e => if_pos e, fun s z ok => ?_, fun s z k ok e => ?_, fun k hk' => ?_, fun k hk' => ?_, h.n1, h.n4, h.ok⟩
    · exact h.tab.kept fun k ht => ⟨hkeep k (by rw [ht]; simp) (by rw [ht]; simp) (by rw [ht]; simp), by show (if _ then _ else _) = _; rw [tg2 k (by rw [ht]; simp)]; exact ht⟩
    · exact h.mp.kept (hkeep _ (by rw [h.tm]; simp) (by rw [h.tm]; simp) (by rw [h.tm]; simp))
    · exact pile_kept (h.pi s z ok) (hkeep _ (by rw [h.tp s z ok]; simp) (by rw [h.tp s z ok]; simp) (by rw [h.tp s z ok]; simp)) fun k e => hkeep _ (by rw [h.tg s z k ok e]; simp) (by rw [h.tg s z k ok e]; simp) (by rw [h.tg s z k ok e]; simp)
    · show (if _ then _ else _) = _; rw [tg2 b (by rw [h.tb]; simp)]; exact h.tb
    · show (if _ then _ else _) = _; rw [tg2 _ (by rw [h.tm]; simp)]; exact h.tm
    · show (if _ then _ else _) = _; rw [tg2 _ (by rw [h.tp s z ok]; simp)]; exact h.tp s z ok
    · show (if _ then _ else _) = _; rw [tg2 _ (by rw [h.tg s z k ok e]; simp)]; exact h.tg s z k ok e
    · by_cases e : v'.ownBlock = some k
      · exact (World.ownsRow.lt hr k e).1
      · have hk' : (if v'.ownBlock = some k then Tag.row else G.tag k) ≠ .no := hk'
        rw [if_neg e] at hk'; exact h.low k hk'
    · have e : v'.ownBlock ≠ some k := fun e => by have := (World.ownsRow.lt hr k e).2; omega
      show (if _ then _ else _) = _
      rw [if_neg e]; exact h.high k (Nat.le_trans hsz hk')
  · refine hk k hk' (fun e => ?_) (fun e => ?_)
    · rw [e, h.tb] at ht; simp at ht
    · rw [h.tr k e] at ht; simp at ht
theorem ocells_len (x : ObjL) : (ocells x).length = 11 := rfl
theorem own_setObj {w : World} {lo k g cap : Nat} {v : Value} {l : List ObjL} (h : w.ownsRow lo 30 11 v l.length (objsV l)) (hk : k < l.length) (hv : v = .slice (some ⟨g, 0, none⟩) l.length cap) (x : ObjL) :
    (w.setCells g (k * 11) (ocells x)).ownsRow lo 30 11 v (l.set k x).length (objsV (l.set k x)) := by
  have hl := objsV_len (l.set k x)
  rw [List.length_set] at hl ⊢
  refine ⟨hl, ?_⟩
  rcases h.2 with ⟨e, _⟩ | ⟨g', cap', cur, e, hb, hg, hn, hm, hs, ht⟩
  · rw [hv] at e; cases e
  · rw [hv] at e
    injection e with e1 _ e2
    injection e1 with e1
    injection e1 with e1 _ _
    subst e1 e2
    have hsz : k * 11 + (ocells x).length ≤ cur.size := by rw [ocells_len, hs]; omega
    refine .inr ⟨g, cap, _, hv, hb, heap_setCells_same _ _ hg hsz, hn, hm, ?_, ?_⟩
    · rw [List.size_toArray, length_splice _ _ _ (by simpa using hsz)]; simpa using hs
    · have hcur : cur.toList = objsV (l.take k) ++ ocells l[k] ++ (objsV (l.drop (k + 1)) ++ cur.toList.drop (l.length * 11)) := by
        have e1 : objsV l = objsV (l.take k) ++ ocells l[k] ++ objsV (l.drop (k + 1)) := by
          conv => lhs; rw [← List.take_append_drop k l, objsV_append, List.drop_eq_getElem_cons hk]
          simp only [objsV, List.flatMap_cons, List.append_assoc]
        have e2 := (List.take_append_drop (l.length * 11) cur.toList).symm
        rw [ht, e1, List.append_assoc] at e2
        exact e2
      have hlen : k * 11 = (objsV (l.take k)).length := by rw [objsV_len, List.length_take]; congr 1; omega
      have hL : l.set k x = l.take k ++ x :: l.drop (k + 1) := List.set_eq_take_append_cons_drop.trans (if_pos hk)
      rw [List.toList_toArray, hcur, hlen, splice_mid _ _ _ (ocells x) (show (ocells l[k]).length = (ocells x).length from rfl), ← List.append_assoc]
      have : objsV (l.set k x) = objsV (l.take k) ++ ocells x ++ objsV (l.drop (k + 1)) := by rw [hL, objsV_append]; simp [objsV]
      rw [← this]
      exact List.take_left' (by rw [hl])
theorem setCells_obj (w : World) (g o : Nat) (x : ObjL) : w.setCells g o (ocells x) = (((((((((((w.setCell ⟨g, o, none⟩ (.int .i64 x.id)).setCell ⟨g, o + 1, none⟩ (.int .i64 x.card)).setCell ⟨g, o + 2, none⟩ (.int .i64 x.owner)).setCell ⟨g, o + 3, none⟩ (.int .i64 x.zone)).setCell ⟨g, o + 4, none⟩ (.bool x.tapped)).setCell ⟨g, o + 5, none⟩ (.bool x.sick)).setCell ⟨g, o + 6, none⟩ (.int .i64 x.hurt)).setCell ⟨g, o + 7, none⟩ (.int .i64 x.count)).setCell ⟨g, o + 8, none⟩ (.int .i64 x.boost)).setCell ⟨g, o + 9, none⟩ (.int .i64 x.block)).setCell ⟨g, o + 10, none⟩ (.bool x.attacks)) := rfl
theorem StoreAt.setObj {w : World} {lo b k g cap : Nat} {G : Ghost} {S : StoreL} (h : StoreAt w lo b G S) (hk : k < S.objs.length) (hv : G.ov = .slice (some ⟨g, 0, none⟩) S.objs.length cap) (x : ObjL) :
    ∃ G', StoreAt (w.setCells g (k * 11) (ocells x)) lo b G' { S with objs := S.objs.set k x } ∧ Turned w (w.setCells g (k * 11) (ocells x)) G G' := by
  have hgr := grown_setCells g (ocells x) (k * 11) w
  have hob : G.ov.ownBlock = some g := by rw [hv]; rfl
  have hne : b ≠ g := fun e => by have h1 := h.tb; have h2 := h.tr g hob; rw [e, h2] at h1; cases h1
  obtain ⟨G', h1, h2, _⟩ := h.objsTo (l' := S.objs.set k x) (v' := G.ov) (w' := w.setCells g (k * 11) (ocells x)) (own_setObj h.ob hk hv x) ((hgr.block b h.lt (by simpa using hne)).trans h.hd) hgr.os hgr.tape hgr.output hgr.size
    (fun j hj _ h2 => hgr.block j hj (fun e => h2 (hob.trans e.symm))) (fun j e => .inl e)
  exact ⟨G', h1, h2⟩
def ocs (x : ObjL) : Array Value := #[.int .i64 x.id, .int .i64 x.card, .int .i64 x.owner, .int .i64 x.zone, .bool x.tapped, .bool x.sick, .int .i64 x.hurt, .int .i64 x.count, .int .i64 x.boost, .int .i64 x.block, .bool x.attacks]
theorem box_obj (w : World) (x : ObjL) : ObjCells (w.alloc (.cells (ocs x) 30)) w.heap.size 0 x := by
  have hc : ∀ j, (w.alloc (.cells (ocs x) 30)).cell? ⟨w.heap.size, j, none⟩ = (ocs x)[j]? := fun j => cell_of_row _ _ j _ _ (0, 0) (heap_alloc_new w _)
  exact ⟨hc 0, hc 1, hc 2, hc 3, hc 4, hc 5, hc 6, hc 7, hc 8, hc 9, hc 10⟩
def RetS (w : World) (lo b : Nat) (G : Ghost) (S : StoreL) (v : Value) (e : Ending) (w' : World) : Prop := e = .returned v ∧ ∃ G', StoreAt w' lo b G' S ∧ Turned w w' G G'
set_option maxRecDepth 100000 in
set_option maxHeartbeats 4000000 in
theorem set_any {w : World} {lo b : Nat} {G : Ghost} {S : StoreL} (h : StoreAt w lo b G S) (hS : S.objs.length ≤ 1000) (k : Nat) (hk : k < S.objs.length) (x : ObjL)
    (h0 : x.id = (k : Int) + 1) (h1 : x.card = S.objs[k].card) (h2 : x.owner = S.objs[k].owner) (h3 : x.zone = S.objs[k].zone) :
    Calls Tryz.prog 12 #[.pointer (some ⟨b, 0, none⟩), oagg x] w (RetS w lo b G { S with objs := S.objs.set k x } (.int .i64 0)) := by
  have HG := Lib.hid (fun (w' : World) (hb : Below w.heap.size w w') => get_in (h.later hb) hS k hk)
  obtain ⟨x0, x1, x2, x3, x4, x5, x6, x7, x8, x9, x10⟩ := x
  dsimp only at h0 h1 h2 h3
  subst h0 h1 h2 h3
  have HH := Lib.hid h
  obtain ⟨y, hy⟩ : ∃ y, S.objs[k] = y := ⟨_, rfl⟩
  rw [hy] at HG ⊢
  unfold RetGet oagg at HG
  unfold oagg
  clear h
  dsimp only at HG ⊢
  have eq0 : ∀ z : Int, (z != z) = false := fun z => bne_self_eq_false z
  have E0 := eq0 y.card
  have E1 := eq0 y.owner
  have E2 := eq0 y.zone
  clear eq0
  obtain ⟨x, hx⟩ : ∃ x : ObjL, x = ⟨(k : Int) + 1, y.card, y.owner, y.zone, x4, x5, x6, x7, x8, x9, x10⟩ := ⟨_, rfl⟩
  have HX := Lib.hid (show ObjCells (w.alloc (.cells #[.int .i64 ((k : Int) + 1), .int .i64 y.card, .int .i64 y.owner, .int .i64 y.zone, .bool x4, .bool x5, .int .i64 x6, .int .i64 x7, .int .i64 x8, .int .i64 x9, .bool x10] 30)) w.heap.size 0 ⟨(k : Int) + 1, y.card, y.owner, y.zone, x4, x5, x6, x7, x8, x9, x10⟩ from box_obj w ⟨(k : Int) + 1, y.card, y.owner, y.zone, x4, x5, x6, x7, x8, x9, x10⟩)
  rw [← hx]
  have HXX := Lib.hid hx
  clear hx
  go_enter Tryz.func12, Tryz.ntmps12
  go_wp2_with fail
  refine (HG.out _ (below_new w _)).mono ?_
  rintro e w1 ⟨rfl, hb1⟩
  obtain ⟨W, hW⟩ : ∃ W, w1.alloc (.cells #[.int .i64 y.id, .int .i64 y.card, .int .i64 y.owner, .int .i64 y.zone, .bool y.tapped, .bool y.sick, .int .i64 y.hurt, .int .i64 y.count, .int .i64 y.boost, .int .i64 y.block, .bool y.attacks] 30) = W := ⟨_, rfl⟩
  have hbx : Below (w.alloc (.cells #[.int .i64 ((k : Int) + 1), .int .i64 y.card, .int .i64 y.owner, .int .i64 y.zone, .bool x4, .bool x5, .int .i64 x6, .int .i64 x7, .int .i64 x8, .int .i64 x9, .bool x10] 30)).heap.size (w.alloc (.cells #[.int .i64 ((k : Int) + 1), .int .i64 y.card, .int .i64 y.owner, .int .i64 y.zone, .bool x4, .bool x5, .int .i64 x6, .int .i64 x7, .int .i64 x8, .int .i64 x9, .bool x10] 30)) W := stepB hb1 (hW ▸ below_new w1 _)
  have hbw : Below w.heap.size w W := stepB (below_new w _) hbx
  obtain ⟨p0, p1, p2, p3, p4, p5, p6, p7, p8, p9, p10⟩ := HX.out.later hbx
  have HW := Lib.hid (HH.out.later hbw)
  have HBW := Lib.hid hbw
  have hrow := own_obj HW.out.ob k hk
  obtain ⟨g, cap, hv, ⟨o0, o1, o2, o3, o4, o5, o6, o7, o8, o9, o10⟩, hfr⟩ := hrow
  have c2 : W.cell? ⟨b, 2, none⟩ = some (.slice (some ⟨g, 0, none⟩) S.objs.length cap) := by rw [cell_of_row W b 2 _ _ _ HW.out.hd, ← hv]; rfl
  simp only [Nat.zero_add] at p1 p2 p3 p4 p5 p6 p7 p8 p9 p10
  have HV := Lib.hid hv
  have d2 : (k : Int) + 1 - 1 = k := by omega
  subst hW
  clear hb1 hbx hbw hv
  go_wp2
  go_region
  all_goals
    go_wp2
    refine bodyPost_ret (by simp [results, Tryz.results12, go_sem]) rfl ⟨rfl, ?_⟩
    obtain ⟨G', h1, h2⟩ := HW.out.setObj hk HV.out x
    rw [setCells_obj] at h1 h2
    rw [HXX.out] at h1 h2 ⊢
    dsimp only at h1 h2
    exact ⟨G', h1.later (Below.refl _ _).drew, ((Turned.of_below HBW.out).trans h2).trans (Turned.of_below (Below.refl _ _).drew)⟩
end Go.Proofs.YtjgjhfeopmakaaaGreat
namespace Go.Proofs.YtjgjhfeopmakaaaGreat
open Go.RowKit Go.Maps

def hasB (c : Crd.CardL) (key : Int) : Bool := decide (0 < key) && (bits .and .i64 c.keys key == key)
set_option maxRecDepth 100000 in
set_option maxHeartbeats 2000000 in
theorem cardHas_any (c : Crd.CardL) (v : Value) (key : Int) (w : World) : Calls Tryz.prog 86 #[Crd.cagg c v, .int .i64 key] w (RetV w (.bool (hasB c key))) := by
  unfold hasB
  cases hk : decide (0 < key)
  · unfold Crd.cagg
    go_enter Tryz.func86, Tryz.ntmps86
    go_wp2
    go_ret
    exact ⟨rfl, below_new w _⟩
  · have hk' := of_decide_eq_true hk
    unfold Crd.cagg
    go_enter Tryz.func86, Tryz.ntmps86
    go_wp2
    go_ret
    exact ⟨ret_bool (by simp), below_new w _⟩
/-- An object as it comes. -/
def sickB (c : Crd.CardL) (z : Int) : Bool := decide (z = 3) && (decide (c.kind = 2) && !hasB c 1)
def freshO (T : List Crd.CardL) (id n owner zone : Int) : ObjL := ⟨id, n, owner, zone, false, (T[n.toNat]?.map fun c => sickB c zone).getD false, 0, 0, 0, 0, false⟩
def RetO (w : World) (o : ObjL) (e : Ending) (w' : World) : Prop := e = .returned (oagg o) ∧ Below w.heap.size w w'
theorem two_nums (w : World) (x : Int) : Crd.NumsAt (w.alloc (.cells #[.int .i64 x] 3)) (.slice (some ⟨w.heap.size, 0, none⟩) 1 1) [x] :=
  .inr ⟨w.heap.size, 0, 1, rfl, by simp, fun i hi => by
    have : i = 0 := by simp at hi; omega
    subst this
    rw [cell_of_row _ _ _ _ _ _ (heap_alloc_new w _)]; rfl⟩
def ccs (c : Crd.CardL) (v : Value) : Array Value := #[.int .i64 c.kind, .int .i64 c.cost, .int .i64 c.power, .int .i64 c.tough, .int .i64 c.keys, .int .i64 c.whn, v]
theorem box_card (w : World) (c : Crd.CardL) (v : Value) : ∀ j, (w.alloc (.cells (ccs c v) 65)).cell? ⟨w.heap.size, j, none⟩ = (ccs c v)[j]? := fun j => cell_of_row _ _ j _ _ (0, 0) (heap_alloc_new w _)
set_option maxRecDepth 100000 in
set_option maxHeartbeats 4000000 in
theorem fresh_any {w : World} {lo b : Nat} {G : Ghost} {S : StoreL} (h : StoreAt w lo b G S) (id owner zone : Int) (n : Nat) (hn : n < S.T.length) :
    Calls Tryz.prog 49 #[.pointer (some ⟨b, 0, none⟩), .int .i64 id, .int .i64 n, .int .i64 owner, .int .i64 zone] w (RetO w (freshO S.T id n owner zone)) := by
  have hs : freshO S.T id n owner zone = ⟨id, n, owner, zone, false, sickB S.T[n] zone, 0, 0, 0, 0, false⟩ := by simp [freshO, hn]
  rw [hs]
  obtain ⟨W, hW⟩ : ∃ W, w.alloc (.cells #[.int .i64 0, .int .i64 0, .int .i64 0, .int .i64 0, .bool false, .bool false, .int .i64 0, .int .i64 0, .int .i64 0, .int .i64 0, .bool false] 30) = W := ⟨_, rfl⟩
  have hb : Below w.heap.size w W := hW ▸ below_new w _
  have hh := h.later hb
  have c0 : W.cell? ⟨b, 0, none⟩ = some G.tv := by rw [cell_of_row W b 0 _ _ _ hh.hd]; rfl
  have ht := hh.tab.is
  obtain ⟨xa, xc, hv⟩ := ht.form
  rw [hv] at ht c0
  obtain ⟨tb, off, rfl, hcc⟩ := ht.at n hn
  obtain ⟨c, hc⟩ : ∃ c, S.T[n] = c := ⟨_, rfl⟩
  rw [hc] at hcc ⊢
  obtain ⟨ya, yc, t0, t1, t2, t3, t4, t5, t6, _⟩ := hcc
  obtain ⟨p0, p1, p2, p3, p4, p5, p6, p7, p8, p9, p10⟩ : ObjCells W w.heap.size 0 zeroO := hW ▸ box_obj w zeroO
  simp only [Nat.zero_add, zeroO] at p0 p1 p2 p3 p4 p5 p6 p7 p8 p9 p10
  have HF := Lib.hid (fun j => frozen_of_row W w.heap.size j _ _ (hW ▸ heap_alloc_new w _))
  have HB := Lib.hid hb
  have d0 : (0 : Int) ≤ n := by omega
  have d1 : (n : Int) < S.T.length := by omega
  subst hW
  clear hh ht hv h hs hb hc
  go_enter Tryz.func49, Tryz.ntmps49
  by_cases hz : zone = 3
  · subst hz
    obtain ⟨kd, hkd⟩ : ∃ kd, decide (c.kind = 2) = kd := ⟨_, rfl⟩
    have HI := Lib.hid (fun (w' : World) (v : Value) (hv : Crd.NumsAt w' v [2]) => (Crd.is_any c ya c.terms.length yc v [2] w' (by decide) hv))
    have hcon : ([2] : List Int).contains c.kind = kd := by rw [← hkd]; by_cases e : c.kind = 2 <;> simp [e]
    rw [hcon] at HI
    unfold Crd.cagg at HI
    have HX := Lib.hid (fun (w' : World) => cardHas_any c (.slice ya c.terms.length yc) 1 w')
    unfold Crd.cagg at HX
    obtain ⟨hb1, hhb1⟩ : ∃ x, hasB c 1 = x := ⟨_, rfl⟩
    rw [hhb1] at HX
    have HSK := Lib.hid (show sickB c 3 = (kd && !hb1) by unfold sickB; rw [hkd, hhb1]; rfl)
    rw [HSK.out]
    clear hcon hkd hhb1
    go_wp2_with fail
    refine (HI.out _ _ ?nn).mono ?_
    case nn =>
      refine .inr ⟨_, 0, 1, rfl, by simp, fun i hi => ?_⟩
      obtain rfl : i = 0 := by simp at hi; omega
      simp [go_sem]
    rintro e w4 ⟨rfl, hb4⟩
    obtain ⟨hc4, hf4⟩ := Crd.bcell hb4
    have a0 : w4.cell? ⟨w.heap.size, 0, none⟩ = some (.int .i64 0) := by rw [hc4 _ _ (by simp; try omega)]; simp [go_sem]
    have a1 : w4.cell? ⟨w.heap.size, 1, none⟩ = some (.int .i64 0) := by rw [hc4 _ _ (by simp; try omega)]; simp [go_sem]
    have a2 : w4.cell? ⟨w.heap.size, 2, none⟩ = some (.int .i64 0) := by rw [hc4 _ _ (by simp; try omega)]; simp [go_sem]
    have a3 : w4.cell? ⟨w.heap.size, 3, none⟩ = some (.int .i64 0) := by rw [hc4 _ _ (by simp; try omega)]; simp [go_sem]
    have a4 : w4.cell? ⟨w.heap.size, 4, none⟩ = some (.bool false) := by rw [hc4 _ _ (by simp; try omega)]; simp [go_sem]
    have a5 : w4.cell? ⟨w.heap.size, 5, none⟩ = some (.bool false) := by rw [hc4 _ _ (by simp; try omega)]; simp [go_sem]
    have a6 : w4.cell? ⟨w.heap.size, 6, none⟩ = some (.int .i64 0) := by rw [hc4 _ _ (by simp; try omega)]; simp [go_sem]
    have a7 : w4.cell? ⟨w.heap.size, 7, none⟩ = some (.int .i64 0) := by rw [hc4 _ _ (by simp; try omega)]; simp [go_sem]
    have a8 : w4.cell? ⟨w.heap.size, 8, none⟩ = some (.int .i64 0) := by rw [hc4 _ _ (by simp; try omega)]; simp [go_sem]
    have a9 : w4.cell? ⟨w.heap.size, 9, none⟩ = some (.int .i64 0) := by rw [hc4 _ _ (by simp; try omega)]; simp [go_sem]
    have a10 : w4.cell? ⟨w.heap.size, 10, none⟩ = some (.bool false) := by rw [hc4 _ _ (by simp; try omega)]; simp [go_sem]
    have fa : ∀ j, w4.frozen? ⟨w.heap.size, j, none⟩ = false := fun j => by rw [hf4 _ _ (by simp; try omega)]; simp [go_sem]
    have e0 : w4.cell? ⟨w.heap.size + 1, 0, none⟩ = some (.int .i64 c.kind) := by rw [hc4 _ _ (by simp; try omega)]; simp [go_sem]
    have e1 : w4.cell? ⟨w.heap.size + 1, 1, none⟩ = some (.int .i64 c.cost) := by rw [hc4 _ _ (by simp; try omega)]; simp [go_sem]
    have e2 : w4.cell? ⟨w.heap.size + 1, 2, none⟩ = some (.int .i64 c.power) := by rw [hc4 _ _ (by simp; try omega)]; simp [go_sem]
    have e3 : w4.cell? ⟨w.heap.size + 1, 3, none⟩ = some (.int .i64 c.tough) := by rw [hc4 _ _ (by simp; try omega)]; simp [go_sem]
    have e4 : w4.cell? ⟨w.heap.size + 1, 4, none⟩ = some (.int .i64 c.keys) := by rw [hc4 _ _ (by simp; try omega)]; simp [go_sem]
    have e5 : w4.cell? ⟨w.heap.size + 1, 5, none⟩ = some (.int .i64 c.whn) := by rw [hc4 _ _ (by simp; try omega)]; simp [go_sem]
    have e6 : w4.cell? ⟨w.heap.size + 1, 6, none⟩ = some (.slice ya c.terms.length yc) := by rw [hc4 _ _ (by simp; try omega)]; simp [go_sem]
    have HB4 := Lib.hid (show Below w.heap.size w w4 from stepB (below_alloc2 (below_alloc2 (below_new w _) _) _) hb4)
    have hsz : w.heap.size < w4.heap.size := by have := hb4.size; simp at this; omega
    clear hc4 hf4 hb4
    dsimp only
    cases kd
    · go_wp2
      refine bodyPost_ret (by simp [results, Tryz.results49, go_sem, a0, a1, a2, a3, a4, a5, a6, a7, a8, a9, a10]; rfl) rfl ⟨rfl, ?_⟩
      exact (((((((((((HB4.out.setCell (by simp) _).setCell (by simp) _).setCell (by simp) _).setCell (by simp) _).setCell (by simp) _).setCell (by simp) _).setCell (by simp) _).setCell (by simp) _).setCell (by simp) _).setCell (by simp) _).setCell (by simp) _)
    · go_wp2_with fail
      refine (HX.out _).mono ?_
      rintro e w5 ⟨rfl, hb5⟩
      have g0 := cell_stays hb5 a0
      have g1 := cell_stays hb5 a1
      have g2 := cell_stays hb5 a2
      have g3 := cell_stays hb5 a3
      have g4 := cell_stays hb5 a4
      have g5 := cell_stays hb5 a5
      have g6 := cell_stays hb5 a6
      have g7 := cell_stays hb5 a7
      have g8 := cell_stays hb5 a8
      have g9 := cell_stays hb5 a9
      have g10 := cell_stays hb5 a10
      clear a0 a1 a2 a3 a4 a5 a6 a7 a8 a9 a10
      have fg : ∀ j, w5.frozen? ⟨w.heap.size, j, none⟩ = false := fun j => by rw [(Crd.bcell hb5).2 _ _ hsz]; exact fa j
      clear fa
      have HB5 := Lib.hid (stepB HB4.out hb5)
      dsimp only
      go_wp2
      refine bodyPost_ret (by simp [results, Tryz.results49, go_sem, g0, g1, g2, g3, g4, g5, g6, g7, g8, g9, g10]; rfl) rfl ⟨rfl, ?_⟩
      exact (((((((((((HB5.out.setCell (by simp) _).setCell (by simp) _).setCell (by simp) _).setCell (by simp) _).setCell (by simp) _).setCell (by simp) _).setCell (by simp) _).setCell (by simp) _).setCell (by simp) _).setCell (by simp) _).setCell (by simp) _)
  · have e3 : (zone == 3) = false := beq_eq_false_iff_ne.2 hz
    have hsk : sickB c zone = false := by unfold sickB; rw [decide_eq_false hz]; rfl
    rw [hsk]
    go_wp2
    refine bodyPost_ret (by simp [results, Tryz.results49, go_sem]; rfl) rfl ⟨rfl, ?_⟩
    exact below_alloc2 (below_new w _) _
end Go.Proofs.YtjgjhfeopmakaaaGreat
namespace Go.Proofs.YtjgjhfeopmakaaaGreat
open Go.RowKit Go.Maps

theorem info_obj : (Tryz.prog.info? 30).map (fun i => (i.zero, i.size, i.bytes)) = some (some (.agg #[.int .i64 0, .int .i64 0, .int .i64 0, .int .i64 0, .bool false, .bool false, .int .i64 0, .int .i64 0, .int .i64 0, .int .i64 0, .bool false]), 11, 80) := by kernel_rfl
theorem ocells_one (x : ObjL) : ∀ u ∈ ocells x, u.oneCell' = true := by
  intro u hu
  simp only [ocells, List.mem_cons, List.not_mem_nil, or_false] at hu
  rcases hu with rfl | rfl | rfl | rfl | rfl | rfl | rfl | rfl | rfl | rfl | rfl <;> rfl
theorem step_append_obj {ops : Array Oper} {o : Oper} {a : Act} {w : World} {K : Act → World → Prop} {Q : Exit → Act → World → Prop} {E : Prop} (hgd : o.guard = none) (s x : Operand)
    (hop : o.op = .call { callee := .builtin .append, args := #[s, x], argTypes := #[75, 75] }) (base : Nat) (v : Value) (l : List ObjL) (y : ObjL) (hs : a.eval s = v) (r : Nat)
    (hown : w.ownsRow base 30 11 v l.length (objsV l)) (hx : a.eval x = .slice (some ⟨r, 0, none⟩) 1 1) (hr : w.heap[r]? = some (.cells (ocs y) 30 (0, 0))) (h1 : l.length ≤ 1000) (hbase : base ≤ w.heap.size)
    (hK : ∀ g cap w', w'.ownsRow base 30 11 (.slice (some ⟨g, 0, none⟩) (l.length + 1) cap) (l.length + 1) (objsV (l ++ [y])) → w.grownBy w' v.ownBlock → (v.ownBlock = some g ∨ g = w.heap.size) → g < w'.heap.size → K (a.put o.dst (.slice (some ⟨g, 0, none⟩) (l.length + 1) cap)) w') :
    if Region.wanted o (yielded ops a.tmps) = true then Oper.wp Tryz.prog o a w K Q else E := by
  obtain ⟨i0, hi0, hz0, hz1, hz2⟩ := info_parts info_obj
  refine step_append_lies w hgd s x 75 hop base 30 i0 _ 11 80 Tryz.underlying75 hi0 hz0 hz1 hz2 rfl (by decide) v l.length (objsV l) hs hown ⟨r, 0, none⟩ 1 1 (ocells y) hx rfl (World.news_of_block hr) (ocells_one y) (by decide) (by unfold maxLen; omega) (by omega) hbase w.heap.size rfl ?_
  intro g cap w' h2 h3 h4 h5
  refine hK g cap w' ?_ h3 h4 h5
  rw [objsV_append]
  simpa [objsV] using h2
theorem StoreAt.headFar {w : World} {lo b : Nat} {G : Ghost} {S : StoreL} (h : StoreAt w lo b G S) : some b ≠ G.ov.ownBlock := fun e => by
  have h1 := h.tr b e.symm
  rw [h.tb] at h1; cases h1
theorem StoreAt.grownHead {w w' : World} {lo b : Nat} {G : Ghost} {S : StoreL} (h : StoreAt w lo b G S) (hg : w.grownBy w' G.ov.ownBlock) :
    w'.heap[b]? = some (.cells #[G.tv, .int .i64 S.seats, G.ov, .map (some G.mb)] 78 (0, 0)) := (hg.block b h.lt h.headFar).trans h.hd
theorem StoreAt.addObj {w w' : World} {lo b g cap : Nat} {G : Ghost} {S : StoreL} (h : StoreAt w lo b G S) (y : ObjL)
    (hown : w'.ownsRow lo 30 11 (.slice (some ⟨g, 0, none⟩) (S.objs.length + 1) cap) (S.objs.length + 1) (objsV (S.objs ++ [y]))) (hgrow : w.grownBy w' G.ov.ownBlock) (hat : G.ov.ownBlock = some g ∨ g = w.heap.size) :
    ∃ G1, StoreAt (w'.setCell ⟨b, 2, none⟩ (.slice (some ⟨g, 0, none⟩) (S.objs.length + 1) cap)) lo b G1 { S with objs := S.objs ++ [y] } ∧ Turned w (w'.setCell ⟨b, 2, none⟩ (.slice (some ⟨g, 0, none⟩) (S.objs.length + 1) cap)) G G1 ∧ G1.pb = G.pb := by
  have hhd := h.grownHead hgrow
  have hgb : g ≠ b := fun e => by
    rcases hat with e2 | e2
    · exact h.headFar (by rw [e2, e])
    · have := h.lt; omega
  obtain ⟨G1, h1, h2, h3, _⟩ := h.objsTo (v' := .slice (some ⟨g, 0, none⟩) (S.objs.length + 1) cap) (l' := S.objs ++ [y]) (w' := w'.setCell ⟨b, 2, none⟩ (.slice (some ⟨g, 0, none⟩) (S.objs.length + 1) cap))
    (by
      have e : (S.objs ++ [y]).length = S.objs.length + 1 := by simp
      rw [e]
      exact own11_later hown fun k hk => heap_setCell_other w' ⟨b, 2, none⟩ k _ (by
        have hk : some g = some k := hk
        injection hk with hk
        show k ≠ b
        omega))
    (by rw [heap_setCell_same w' b 2 _ _ _ hhd]; rfl) hgrow.os hgrow.tape hgrow.output (by simpa using hgrow.size)
    (fun k hk h1 h2 => (heap_setCell_other w' ⟨b, 2, none⟩ k _ h1).trans (hgrow.block k hk (fun e => h2 e.symm)))
    (fun k hk => by
      have hk : some g = some k := hk
      injection hk with hk
      subst hk
      rcases hat with e | e
      · exact .inl e
      · exact .inr (Nat.le_of_eq e.symm))
  exact ⟨G1, h1, h2, h3⟩
def canN (s z : Nat) : Nat := if z = 3 ∨ z = 4 then 0 else s
theorem canN_cast (s z : Nat) : canS (s : Int) (z : Int) = (canN s z : Int) := by
  unfold canS canN
  by_cases h : z = 3 ∨ z = 4
  · rw [if_pos h, if_pos (by omega)]; rfl
  · rw [if_neg h, if_neg (by omega)]
theorem canN_ok {n s z : Nat} (hs : s < n) (h1 : 1 ≤ z) (h7 : z ≤ 7) : okK n (canN s z) z := by
  unfold canN
  split
  · exact ⟨by omega, h1, h7, fun _ => rfl⟩
  · rename_i h; exact ⟨hs, h1, h7, fun e => absurd e h⟩
def addL (S : StoreL) (n owner zone : Nat) : StoreL :=
  { S with objs := S.objs ++ [freshO S.T (S.objs.length + 1) n owner zone], pl := upd S.pl (canN owner zone) zone (layL (S.pl (canN owner zone) zone) (S.pl (canN owner zone) zone).length (S.objs.length + 1)) }
theorem table_short {T : List Crd.CardL} (h : Crd.tableE T = 0) : T.length ≤ 60 := by
  unfold Crd.tableE at h
  split at h
  · cases h
  · omega
theorem wf_nat {x : Nat} (h : x ≤ 1000) : Wf (x : Int) := ⟨by omega, by omega⟩
set_option maxRecDepth 100000 in
set_option maxHeartbeats 4000000 in
theorem add_ok {w : World} {lo b : Nat} {G : Ghost} {S : StoreL} (h : StoreAt w lo b G S) (hlo : lo ≤ w.heap.size) (hS : ShortS S) (n owner zone : Nat) (hn : n < S.T.length) (ho : owner < S.seats) (h1 : 1 ≤ zone) (h7 : zone ≤ 7) :
    Calls Tryz.prog 25 #[.pointer (some ⟨b, 0, none⟩), .int .i64 n, .int .i64 owner, .int .i64 zone] w
      (RetS w lo b G (addL S n owner zone) (.tuple #[.int .i64 ((S.objs.length : Int) + 1), .int .i64 0])) := by
  have ok := canN_ok ho h1 h7
  have hT := table_short h.ok
  have hn4 := h.n4
  have HP := pileAt_any h (wf_nat (x := owner) (by omega)) (wf_nat (x := zone) (by omega))
  rw [canN_cast, show ptrOf S.seats G.pb (canN owner zone : Int) (zone : Int) = .pointer (some ⟨G.pb (canN owner zone) zone, 0, none⟩) from if_pos (okI_nat.2 ok)] at HP
  have HPA := Lib.hid HP
  obtain ⟨pb, hpb⟩ : ∃ pb, G.pb (canN owner zone) zone = pb := ⟨_, rfl⟩
  rw [hpb] at HPA
  obtain ⟨ta, tc, htv⟩ := h.tab.is.form
  obtain ⟨xa, xc, hov⟩ := own_form h.ob
  have hl := hS.1
  have hd0 : decide ((n : Int) < 0) = false := decide_eq_false (by omega)
  have hd1 : decide ((S.T.length : Int) ≤ (n : Int)) = false := decide_eq_false (by omega)
  have hd2 : decide ((owner : Int) < 0) = false := decide_eq_false (by omega)
  have hd3 : decide ((S.seats : Int) ≤ (owner : Int)) = false := decide_eq_false (by omega)
  have hd4 : decide (S.T.length ≤ n) = false := decide_eq_false (by omega)
  have hd5 : decide (S.seats ≤ owner) = false := decide_eq_false (by omega)
  have HH := Lib.hid h
  have HN := Lib.hid (And.intro hn ok)
  have HPB := Lib.hid hpb
  have HOV := Lib.hid hov
  have HTV := Lib.hid htv
  have HSS := Lib.hid hS
  have HLO := Lib.hid hlo
  clear HP h hn ho ok hpb h1 h7 hS hov htv hlo
  go_enter Tryz.func25, Tryz.ntmps25
  go_wp2_with fail
  refine HPA.out.mono ?_
  rintro e w1 ⟨rfl, hb1⟩
  have HB1 := Lib.hid hb1
  have hh := HH.out.later hb1
  have c0 : w1.cell? ⟨b, 0, none⟩ = some (.slice ta S.T.length tc) := by rw [cell_of_row w1 b 0 _ _ _ hh.hd, ← HTV.out]; rfl
  have c1 : w1.cell? ⟨b, 1, none⟩ = some (.int .i64 S.seats) := by rw [cell_of_row w1 b 1 _ _ _ hh.hd]; rfl
  have c2 : w1.cell? ⟨b, 2, none⟩ = some (.slice xa S.objs.length xc) := by rw [cell_of_row w1 b 2 _ _ _ hh.hd, ← HOV.out]; rfl
  have H1 := Lib.hid hh
  clear hh hb1
  go_wp2
  obtain ⟨y, hy⟩ : ∃ y, freshO S.T ((S.objs.length : Int) + 1) n owner zone = y := ⟨_, rfl⟩
  have HF : Hid (∀ w' : World, Below w1.heap.size w1 w' → Calls Tryz.prog 49 #[.pointer (some ⟨b, 0, none⟩), .int .i64 ((S.objs.length : Int) + 1), .int .i64 n, .int .i64 owner, .int .i64 zone] w' fun e w'' => e = .returned (.agg (ocs y)) ∧ Below w'.heap.size w' w'') := Lib.hid fun w' hb => by
    have hf := fresh_any (H1.out.later hb) ((S.objs.length : Int) + 1) owner zone n HN.out.1
    rw [hy] at hf
    exact hf
  unfold ocs at HF
  have HY := Lib.hid hy
  clear hy c0 c1
  go_region_law ((first
    | (go_simp; go_at_call 49; refine (HF.out _ (below_drewN (Below.refl _ _) _)).mono ?_; rintro e w2 ⟨rfl, hb2⟩; have hb2' := stepB (below_drewN (Below.refl w1.heap.size w1) _) hb2; have c2' := cell_stays hb2' c2; have c2s := cell_stays (below_new w2 (.cells #[.int .i64 y.id, .int .i64 y.card, .int .i64 y.owner, .int .i64 y.zone, .bool y.tapped, .bool y.sick, .int .i64 y.hurt, .int .i64 y.count, .int .i64 y.boost, .int .i64 y.block, .bool y.attacks] 30)) c2'; dsimp only)
    | (refine step_append_obj rfl _ _ rfl lo (.slice xa S.objs.length xc) S.objs y rfl w2.heap.size (by rw [← HOV.out]; exact (H1.out.later (below_alloc2 hb2' _)).ob) rfl (heap_alloc_new w2 _) hl (by have := HLO.out; have := HB1.out.size; have := hb2'.size; simp; omega) ?_; intro g cap w3 hown hgrow hat hlt3;
        have H2 := Lib.hid (H1.out.later (below_alloc2 hb2' (.cells (ocs y) 30)));
        have hhd := H2.out.grownHead (by rw [HOV.out]; exact hgrow);
        have c3 : w3.cell? ⟨b, 2, none⟩ = some (.slice xa S.objs.length xc) := (by rw [cell_of_row w3 b 2 _ _ _ hhd, ← HOV.out]; rfl);
        have f3 : w3.frozen? ⟨b, 2, none⟩ = false := frozen_of_row w3 b 2 _ _ hhd)
    | (trace_state; fail "arm")))
  all_goals
    obtain ⟨G1, H4, T4, hpb1⟩ := H2.out.addObj y hown (by rw [HOV.out]; exact hgrow) (by rw [HOV.out]; exact hat)
    obtain ⟨W4, hW4⟩ : ∃ W4, w3.setCell ⟨b, 2, none⟩ (.slice (some ⟨g, 0, none⟩) (S.objs.length + 1) cap) = W4 := ⟨_, rfl⟩
    rw [hW4] at H4 T4 ⊢
    have T5 := Lib.hid (((Turned.of_below HB1.out).trans (Turned.of_below (below_alloc2 hb2' _))).trans T4)
    have HPI := H4.pi _ _ HN.out.2
    rw [hpb1, HPB.out] at HPI
    have HUN := Lib.hid (under_any ((S.objs.length : Int) + 1) HPI (HSS.out.2 _ _ HN.out.2))
    have H5 := Lib.hid H4
    have HPB1 := Lib.hid (hpb1.trans rfl : G1.pb = G.pb)
    clear hown hgrow hat hlt3 hhd c3 f3 H4 T4 hpb1 HPI hb2 hb2' c2' c2s H2 c2 hW4
    go_wp2_with fail
    refine HUN.out.mono ?_
    rintro e w5 ⟨g', rfl, hp5, hc5, hn5⟩
    have hq : PileAt w5 lo (G1.pb (canN owner zone) zone) g' (layL (S.pl (canN owner zone) zone) (S.pl (canN owner zone) zone).length ((S.objs.length : Int) + 1)) := by rw [HPB1.out, HPB.out]; exact hp5
    have hcq : Chg W4 w5 (G1.pb (canN owner zone) zone) (G1.pg (canN owner zone) zone) := by rw [HPB1.out, HPB.out]; exact hc5
    obtain ⟨G2, H6, T6, _⟩ := H5.out.pile HN.out.2 hq hcq hn5
    have HE := Lib.hid H6
    have HTT := Lib.hid (T5.out.trans T6)
    clear hp5 hc5 hn5 hq hcq H6 T6
    dsimp only
    go_wp2
    go_ret2
    refine ⟨rfl, G2, ?_, HTT.out⟩
    have := HE.out
    rw [← HY.out] at this
    exact this
end Go.Proofs.YtjgjhfeopmakaaaGreat
