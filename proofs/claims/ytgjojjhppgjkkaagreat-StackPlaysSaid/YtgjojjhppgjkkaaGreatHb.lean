/- Stores of objects (layer 6) in memory: objects, piles by places (a map of pointers), what belongs to a store, what a store's change leaves as it was. A store in memory: which block is whose (tags), what a change of it leaves as it was; what later worlds keep of it. -/
import Derived.Test.YtgjojjhppgjkkaaGreatCd
import Derived.Test.YtgjojjhppgjkkaaGreatFh
import Derived.Maps.OwnSet
import Derived.DeepKeys4
namespace Go.Proofs.YtgjojjhppgjkkaaGreat
open Go.RowKit Go.Maps

structure ObjL where
  id : Int
  card : Int
  owner : Int
  zone : Int
  tapped : Bool
  sick : Bool
  hurt : Int
  count : Int
  boost : Int
  block : Int
  attacks : Bool
def ocells (o : ObjL) : List Value := [.int .i64 o.id, .int .i64 o.card, .int .i64 o.owner, .int .i64 o.zone, .bool o.tapped, .bool o.sick, .int .i64 o.hurt, .int .i64 o.count, .int .i64 o.boost, .int .i64 o.block, .bool o.attacks]
def oagg (o : ObjL) : Value := .agg #[.int .i64 o.id, .int .i64 o.card, .int .i64 o.owner, .int .i64 o.zone, .bool o.tapped, .bool o.sick, .int .i64 o.hurt, .int .i64 o.count, .int .i64 o.boost, .int .i64 o.block, .bool o.attacks]
def objsV (l : List ObjL) : List Value := l.flatMap ocells
theorem objsV_len (l : List ObjL) : (objsV l).length = l.length * 11 := by
  induction l with
  | nil => rfl
  | cons o l ih => simp only [objsV, List.flatMap_cons, List.length_append, List.length_cons] at ih ⊢; rw [ih]; simp [ocells]; omega
theorem objsV_append (l r : List ObjL) : objsV (l ++ r) = objsV l ++ objsV r := by simp [objsV]
theorem objsV_at : ∀ (l : List ObjL) (k j : Nat) (h : k < l.length) (_ : j < 11), (objsV l)[k * 11 + j]? = (ocells l[k])[j]?
  | [], k, j, h, _ => by simp at h
  | o :: l, 0, j, _, hj => by
    simp only [objsV, List.flatMap_cons, Nat.zero_mul, Nat.zero_add, List.getElem_cons_zero]
    exact List.getElem?_append_left (by simpa [ocells] using hj)
  | o :: l, k + 1, j, h, hj => by
    have e : (objsV (o :: l))[(k + 1) * 11 + j]? = (objsV l)[k * 11 + j]? := by
      rw [show (k + 1) * 11 + j = k * 11 + j + 11 by omega]
      simp [objsV, ocells]
    rw [e, objsV_at l k j (by simpa using h) hj]
    rfl

/-! Keys of the map of piles. -/
theorem laidOut : laidOutB Tryz.prog = true := by kernel_rfl
theorem place_row : decide (130 < Tryz.prog.types.size) = true := by kernel_rfl
theorem place_law : WideMaps.KeyLaw Tryz.prog 130 := deep_law_laid laidOut (m := 2) (by omega) (of_decide_eq_true place_row) (by kernel_rfl) (by kernel_rfl)
set_option maxRecDepth 100000 in
theorem place_keyed : Keyed Tryz.prog 130 := Keyed.of_law place_law
def Wf (x : Int) : Prop := -9223372036854775808 ≤ x ∧ x ≤ 9223372036854775807
theorem Wf.lit {x : Int} (h : Wf x) : (Lit.int .i64 x).wf = true := WalkArith.wf_i64 (by obtain ⟨h1, h2⟩ := h; omega)
def kv (s z : Int) : Value := .agg #[.int .i64 s, .int .i64 z]
noncomputable def kl (s z : Int) : Lit := (keyOf Tryz.prog 130 (kv s z)).getD (.bool false)
set_option maxRecDepth 100000 in
theorem place_key {s z : Int} (hs : Wf s) (hz : Wf z) : keyOf Tryz.prog 130 (kv s z) = some (kl s z) := by
  have h : ∃ bs, keyOf Tryz.prog 130 (kv s z) = some (.string bs) := by
    have hs := hs.lit
    have hz := hz.lit
    have hu := Tryz.underlying130
    have hc : Tryz.prog.cellsOf 130 = 2 := by kernel_rfl
    have hc3 : Tryz.prog.cellsOf 3 = 1 := by kernel_rfl
    have hu3 := Tryz.underlying3
    have hk : Tryz.prog.keyType 130 = true := by kernel_rfl
    obtain ⟨n, hsz⟩ : ∃ n, Tryz.prog.types.size = n + 1 := ⟨_, (Nat.succ_pred_eq_of_pos (Nat.lt_of_le_of_lt (Nat.zero_le _) (of_decide_eq_true place_row))).symm⟩
    unfold keyOf kv
    rw [hsz, hu]
    simp only [hk]
    simp [Program.keyLits, hu, hc, hc3, hu3, Value.cells, hs, hz, Value.formed, List.mapM_cons]
  obtain ⟨bs, h⟩ := h
  unfold kl
  rw [h]
  rfl
set_option maxRecDepth 100000 in
theorem kl_ne {s z s' z' : Int} (hs : Wf s) (hz : Wf z) (hs' : Wf s') (hz' : Wf z') (h : s ≠ s' ∨ z ≠ z') : kl s z ≠ kl s' z' := by
  intro e
  have h1 := place_key hs hz
  have h2 := place_key hs' hz'
  rw [e] at h1
  have := place_keyed.inj h1 h2
  simp [kv] at this
  omega
set_option maxRecDepth 100000 in
theorem kl_key {s z : Int} (hs : Wf s) (hz : Wf z) : WideAt.IsKeyLit (kl s z) := place_keyed.key (place_key hs hz)
/-- How a pointer to a pile reads: by its block's number. -/
def ptrElem : Value → Option (DataW Unit × List MemPlace)
  | .pointer none => some (.lit (.int .i64 (-1)), [])
  | .pointer (some ⟨b, 0, none⟩) => some (.lit (.int .i64 (b : Int)), [])
  | _ => none
theorem ptrElem_ptr (b : Nat) : ptrElem (.pointer (some ⟨b, 0, none⟩)) = some (.lit (.int .i64 (b : Int)), []) := rfl
theorem ptrElem_nil : ptrElem (.pointer none) = some (.lit (.int .i64 (-1)), []) := rfl
set_option maxRecDepth 100000 in
theorem ptrElem_inv {v : Value} {x : Int} {ps : List MemPlace} (h : ptrElem v = some (.lit (.int .i64 x), ps)) : (v = .pointer none ∧ x = -1) ∨ ∃ b : Nat, v = .pointer (some ⟨b, 0, none⟩) ∧ x = b := by
  unfold ptrElem at h
  split at h
  · injection h with h; injection h with h _; injection h with h; injection h with _ h; exact .inl ⟨rfl, h.symm⟩
  · injection h with h; injection h with h _; injection h with h; injection h with _ h; exact .inr ⟨_, rfl, h.symm⟩
  · cases h
/-- Places that there are, in a store of n seats: Field and Stack at seat 0 alone. -/
def okK (n s z : Nat) : Prop := s < n ∧ 1 ≤ z ∧ z ≤ 7 ∧ (z = 3 ∨ z = 4 → s = 0)
instance (n s z : Nat) : Decidable (okK n s z) := by unfold okK; infer_instance
def okI (n : Nat) (s z : Int) : Prop := 0 ≤ s ∧ 0 ≤ z ∧ okK n s.toNat z.toNat
instance (n : Nat) (s z : Int) : Decidable (okI n s z) := by unfold okI; infer_instance
theorem okI_nat {n s z : Nat} : okI n (s : Int) (z : Int) ↔ okK n s z := by unfold okI; simp
theorem okK.wf {n s z : Nat} (h : okK n s z) (hn : n ≤ 4) : Wf (s : Int) ∧ Wf (z : Int) := by
  obtain ⟨h1, h2, h3, _⟩ := h
  exact ⟨⟨by omega, by omega⟩, ⟨by omega, by omega⟩⟩
/-- What a map of piles holds: just the places of n seats, each with its pile's block. -/
structure MapD (D : DataW Unit) (n : Nat) (pb : Nat → Nat → Nat) : Prop where
  has : ∀ s z : Int, Wf s → Wf z → Maps.has D (kl s z) = decide (okI n s z)
  val : ∀ s z : Nat, okK n s z → D.atKey (kl s z) (.lit (.int .i64 (-1))) = .lit (.int .i64 (pb s z : Int))
  only : ∀ k, Maps.has D k = true → ∃ s z : Nat, okK n s z ∧ k = kl s z
def MapAt (w : World) (mb n : Nat) (pb : Nat → Nat → Nat) : Prop := ∃ D, w.ownsMap Tryz.prog 130 ptrElem mb 1000 D ∧ Maps.size D ≤ 100 ∧ MapD D n pb
theorem MapAt.kept {w w' : World} {mb n : Nat} {pb : Nat → Nat → Nat} (h : MapAt w mb n pb) (hk : w'.heap[mb]? = w.heap[mb]?) : MapAt w' mb n pb := by
  obtain ⟨D, ⟨es, clock, hb, r⟩, h2⟩ := h
  exact ⟨D, ⟨es, clock, hk.trans hb, r⟩, h2⟩
theorem MapAt.lt {w : World} {mb n : Nat} {pb : Nat → Nat → Nat} (h : MapAt w mb n pb) : mb < w.heap.size := h.choose_spec.1.lt
theorem zero_ptr (w : World) : (zeroValue 118).run Tryz.prog w = .ok (.pointer none) w := by kernel_rfl
/-- The pile that a look-up tells: none, if there is no such place. -/
def ptrOf (n : Nat) (pb : Nat → Nat → Nat) (s z : Int) : Value := if okI n s z then .pointer (some ⟨pb s.toNat z.toNat, 0, none⟩) else .pointer none
set_option maxRecDepth 100000 in
theorem MapAt.look {w : World} {mb n : Nat} {pb : Nat → Nat → Nat} (h : MapAt w mb n pb) {s z : Int} (hs : Wf s) (hz : Wf z) :
    (Instr.lookup 99 (.map (some mb)) (kv s z) false).run Tryz.prog w = .ok (ptrOf n pb s z) w := by
  obtain ⟨D, ho, _, hd⟩ := h
  obtain ⟨v, ps, hrun, hv⟩ := ho.lookup place_keyed Tryz.underlying99 (zero_ptr w) ptrElem_nil (place_key hs hz)
  rw [hrun]
  congr 1
  unfold ptrOf
  by_cases hk : okI n s z
  · rw [if_pos hk]
    obtain ⟨h1, h2, h3⟩ := hk
    have ha := hd.val _ _ h3
    rw [Int.toNat_of_nonneg h1, Int.toNat_of_nonneg h2] at ha
    rw [ha] at hv
    rcases ptrElem_inv hv with ⟨_, h⟩ | ⟨b, rfl, h⟩
    · omega
    · rw [show b = pb s.toNat z.toNat by omega]
  · rw [if_neg hk]
    have hh := hd.has s z hs hz
    rw [decide_eq_false hk] at hh
    rw [atKey_of_not_has hh] at hv
    rcases ptrElem_inv hv with ⟨h, _⟩ | ⟨b, rfl, h⟩
    · exact h
    · omega
end Go.Proofs.YtgjojjhppgjkkaaGreat
namespace Go.Proofs.YtgjojjhppgjkkaaGreat
open Go.RowKit Go.Maps

/-- Whose a block is: nobody's, the table's, the store's own, the map's, the objects', a pile's, the row's of a pile. -/
inductive Tag
  | no | tab | head | map | row
  | pile (s z : Nat)
  | prow (s z : Nat)
structure Ghost where
  tv : Value
  ov : Value
  mb : Nat
  pb : Nat → Nat → Nat
  pg : Nat → Nat → Option Nat
  tag : Nat → Tag
structure StoreL where
  T : List Crd.CardL
  seats : Nat
  objs : List ObjL
  pl : Nat → Nat → List Int
/-- A table that nobody writes: it stays as long as the blocks that bear its mark do. -/
def TabAt (w : World) (tag : Nat → Tag) (v : Value) (T : List Crd.CardL) : Prop := ∀ W' : World, (∀ k, tag k = .tab → W'.heap[k]? = w.heap[k]?) → Crd.CardsAt W' v T
theorem TabAt.is {w : World} {tag : Nat → Tag} {v : Value} {T : List Crd.CardL} (h : TabAt w tag v T) : Crd.CardsAt w v T := h w fun _ _ => rfl
theorem TabAt.kept {w w' : World} {tag tag' : Nat → Tag} {v : Value} {T : List Crd.CardL} (h : TabAt w tag v T) (hk : ∀ k, tag k = .tab → w'.heap[k]? = w.heap[k]? ∧ tag' k = .tab) : TabAt w' tag' v T :=
  fun W' hW => h W' fun k ht => (hW k (hk k ht).2).trans (hk k ht).1
/-- All that lay there but what bears a mark that may be written is as it was. -/
structure ChgF (w w' : World) (tag : Nat → Tag) : Prop where
  os : w'.os = w.os
  tape : w'.tape = w.tape
  output : w'.output = w.output
  size : w.heap.size ≤ w'.heap.size
  block : ∀ k, k < w.heap.size → tag k = .no ∨ tag k = .tab → w'.heap[k]? = w.heap[k]?
structure StoreAt (w : World) (lo b : Nat) (G : Ghost) (S : StoreL) : Prop where
  hd : w.heap[b]? = some (.cells #[G.tv, .int .i64 S.seats, G.ov, .map (some G.mb)] 101 (0, 0))
  tab : TabAt w G.tag G.tv S.T
  ob : w.ownsRow lo 35 11 G.ov S.objs.length (objsV S.objs)
  mp : MapAt w G.mb S.seats G.pb
  pi : ∀ s z, okK S.seats s z → PileAt w lo (G.pb s z) (G.pg s z) (S.pl s z)
  tb : G.tag b = .head
  tm : G.tag G.mb = .map
  tr : ∀ k, G.ov.ownBlock = some k → G.tag k = .row
  tp : ∀ s z, okK S.seats s z → G.tag (G.pb s z) = .pile s z
  tg : ∀ s z k, okK S.seats s z → G.pg s z = some k → G.tag k = .prow s z
  low : ∀ k, G.tag k ≠ .no → lo ≤ k
  high : ∀ k, w.heap.size ≤ k → G.tag k = .no
  n1 : 1 ≤ S.seats
  n4 : S.seats ≤ 4
  ok : Crd.tableE S.T = 0
theorem own11_later {w w' : World} {base sz : Nat} {t : TypeId} {v : Value} {n : Nat} {xs : List Value} (h : w.ownsRow base t sz v n xs) (hb : ∀ k, v.ownBlock = some k → w'.heap[k]? = w.heap[k]?) : w'.ownsRow base t sz v n xs := by
  refine ⟨h.1, ?_⟩
  rcases h.2 with h2 | ⟨g, cap, cur, e, hb2, hg, r⟩
  · exact .inl h2
  · exact .inr ⟨g, cap, cur, e, hb2, (hb g (by rw [e]; rfl)).trans hg, r⟩
theorem pile_kept {w w' : World} {lo b : Nat} {g : Option Nat} {L : List Int} (h : PileAt w lo b g L) (h1 : w'.heap[b]? = w.heap[b]?) (h2 : ∀ k, g = some k → w'.heap[k]? = w.heap[k]?) : PileAt w' lo b g L := by
  obtain ⟨v, p1, p2, p3, p4⟩ := h
  exact ⟨v, h1.trans p1, p2, p3, own11_later p4 (fun k hk => h2 k (p2 ▸ hk))⟩
theorem StoreAt.lt {w : World} {lo b : Nat} {G : Ghost} {S : StoreL} (h : StoreAt w lo b G S) : b < w.heap.size := (Array.getElem?_eq_some_iff.1 h.hd).1
theorem StoreAt.tagLt {w : World} {lo b k : Nat} {G : Ghost} {S : StoreL} (h : StoreAt w lo b G S) (ht : G.tag k ≠ .no) : k < w.heap.size := by
  by_cases hk : k < w.heap.size
  · exact hk
  · exact absurd (h.high k (by omega)) ht
/-- A store stays where what bears its marks does. -/
theorem StoreAt.kept {w w' : World} {lo b : Nat} {G : Ghost} {S : StoreL} (h : StoreAt w lo b G S) (hs : w.heap.size ≤ w'.heap.size) (hk : ∀ k, G.tag k ≠ .no → w'.heap[k]? = w.heap[k]?) : StoreAt w' lo b G S where
  hd := (hk b (by rw [h.tb]; simp)).trans h.hd
  tab := h.tab.kept fun k ht => ⟨hk k (by rw [ht]; simp), ht⟩
  ob := own11_later h.ob fun k e => hk k (by rw [h.tr k e]; simp)
  mp := h.mp.kept (hk _ (by rw [h.tm]; simp))
  pi := fun s z ok => pile_kept (h.pi s z ok) (hk _ (by rw [h.tp s z ok]; simp)) fun k e => hk k (by rw [h.tg s z k ok e]; simp)
  tb := h.tb
  tm := h.tm
  tr := h.tr
  tp := h.tp
  tg := h.tg
  low := h.low
  high := fun k hk => h.high k (Nat.le_trans hs hk)
  n1 := h.n1
  n4 := h.n4
  ok := h.ok
theorem StoreAt.later {w w' : World} {lo b : Nat} {G : Ghost} {S : StoreL} (h : StoreAt w lo b G S) (hb : Below w.heap.size w w') : StoreAt w' lo b G S :=
  h.kept hb.size fun k ht => hb.block k (h.tagLt ht)
/-- From one world to another a store alone was changed, and has new blocks. -/
structure Turned (w w' : World) (G G' : Ghost) : Prop where
  chg : ChgF w w' G.tag
  tag : ∀ k, k < w.heap.size → G'.tag k = G.tag k
theorem Turned.of_below {w w' : World} {G : Ghost} (hb : Below w.heap.size w w') : Turned w w' G G := ⟨⟨hb.os, hb.tape, hb.output, hb.size, fun k hk _ => hb.block k hk⟩, fun _ _ => rfl⟩
theorem Turned.trans {w w1 w2 : World} {G G1 G2 : Ghost} (h : Turned w w1 G G1) (k : Turned w1 w2 G1 G2) : Turned w w2 G G2 :=
  ⟨⟨k.chg.os.trans h.chg.os, k.chg.tape.trans h.chg.tape, k.chg.output.trans h.chg.output, Nat.le_trans h.chg.size k.chg.size,
    fun i hi ht => (k.chg.block i (Nat.lt_of_lt_of_le hi h.chg.size) (by rw [h.tag i hi]; exact ht)).trans (h.chg.block i hi ht)⟩,
   fun i hi => (k.tag i (Nat.lt_of_lt_of_le hi h.chg.size)).trans (h.tag i hi)⟩
theorem Turned.below {A w w' : World} {G G' : Ghost} (h : Turned w w' G G') (hA : Below A.heap.size A w) (hlo : ∀ k, G.tag k ≠ .no → A.heap.size ≤ k) : Below A.heap.size A w' :=
  ⟨h.chg.os.trans hA.os, h.chg.tape.trans hA.tape, h.chg.output.trans hA.output, Nat.le_trans hA.size h.chg.size, fun k hk =>
    (h.chg.block k (Nat.lt_of_lt_of_le hk hA.size) (.inl (Classical.byContradiction fun hn => by have := hlo k hn; omega))).trans (hA.block k hk)⟩
/-- Two stores share nothing. -/
def Apart (G H : Ghost) : Prop := ∀ k, G.tag k = .no ∨ H.tag k = .no
theorem Apart.flip {G H : Ghost} (h : Apart G H) : Apart H G := fun k => (h k).symm
theorem StoreAt.far {w w' : World} {lo' b' : Nat} {G G' H : Ghost} {S' : StoreL} (h' : StoreAt w lo' b' H S') (ha : Apart G H) (ht : Turned w w' G G') : StoreAt w' lo' b' H S' ∧ Apart G' H := by
  refine ⟨h'.kept ht.chg.size fun k hk => ht.chg.block k (h'.tagLt hk) (.inl ((ha k).resolve_right hk)), fun k => ?_⟩
  by_cases hk : k < w.heap.size
  · rw [ht.tag k hk]; exact ha k
  · exact .inr (h'.high k (by omega))

def upd {α : Type} (f : Nat → Nat → α) (s z : Nat) (x : α) : Nat → Nat → α := fun s' z' => if s' = s ∧ z' = z then x else f s' z'
theorem upd_same {α : Type} (f : Nat → Nat → α) (s z : Nat) (x : α) : upd f s z x s z = x := by simp [upd]
theorem upd_other {α : Type} (f : Nat → Nat → α) {s z s' z' : Nat} (x : α) (h : ¬ (s' = s ∧ z' = z)) : upd f s z x s' z' = f s' z' := if_neg h
theorem upd_self {α : Type} (f : Nat → Nat → α) (s z : Nat) : upd f s z (f s z) = f := by
  funext s' z'
  unfold upd
  split
  · rename_i h; rw [h.1, h.2]
  · rfl
/-- A pile of the store has changed. -/
theorem StoreAt.pile {w w' : World} {lo b s z : Nat} {G : Ghost} {S : StoreL} {g' : Option Nat} {L' : List Int} (h : StoreAt w lo b G S) (ok : okK S.seats s z) (hp : PileAt w' lo (G.pb s z) g' L') (hc : Chg w w' (G.pb s z) (G.pg s z)) (hn : Newer w (G.pg s z) g') :
    ∃ G', StoreAt w' lo b G' { S with pl := upd S.pl s z L' } ∧ Turned w w' G G' ∧ G'.pb = G.pb ∧ G'.ov = G.ov ∧ G'.mb = G.mb ∧ G'.tv = G.tv := by
  classical
  have htag : ∀ k, k < w.heap.size → g' = some k → G.tag k = .prow s z := fun k hk e => by
    rcases hn with hn | ⟨r, hr, hlt⟩
    · exact h.tg s z k ok (hn ▸ e)
    · rw [hr] at e; injection e with e; omega
  have hnt : ∀ k, k < w.heap.size → (if g' = some k then Tag.prow s z else G.tag k) = G.tag k := fun k hk => by
    split
    · rename_i e; exact (htag k hk e).symm
    · rfl
  have hkeep : ∀ k, k < w.heap.size → G.tag k ≠ .pile s z → G.tag k ≠ .prow s z → w'.heap[k]? = w.heap[k]? := fun k hk h1 h2 =>
    hc.block k hk (fun e => h1 (by rw [e]; exact h.tp s z ok)) (fun e => h2 (h.tg s z k ok e))
  have hk2 : ∀ k, G.tag k ≠ .no → G.tag k ≠ .pile s z → G.tag k ≠ .prow s z → w'.heap[k]? = w.heap[k]? := fun k h0 h1 h2 => hkeep k (h.tagLt h0) h1 h2
  refine ⟨{ G with pg := upd G.pg s z g', tag := fun k => if g' = some k then .prow s z else G.tag k }, ?_, ⟨⟨hc.os, hc.tape, hc.output, hc.size, fun k hk ht => ?_⟩, hnt⟩, rfl, rfl, rfl, rfl⟩
  · have tg2 : ∀ k, G.tag k ≠ .no → (if g' = some k then Tag.prow s z else G.tag k) = G.tag k := fun k hk => hnt k (h.tagLt hk)
    refine ⟨?_, ?_, ?_, ?_, fun s' z' ok' => ?_, ?_, ?_, fun k e => ?_, fun s' z' ok' => ?_, fun s' z' k ok' e => ?_, fun k hk => ?_, fun k hk => ?_, h.n1, h.n4, h.ok⟩
    · exact (hk2 b (by rw [h.tb]; simp) (by rw [h.tb]; simp) (by rw [h.tb]; simp)).trans h.hd
    · exact h.tab.kept fun k ht => ⟨hk2 k (by rw [ht]; simp) (by rw [ht]; simp) (by rw [ht]; simp), by show (if _ then _ else _) = _; rw [tg2 k (by rw [ht]; simp)]; exact ht⟩
    · exact own11_later h.ob fun k e => hk2 k (by rw [h.tr k e]; simp) (by rw [h.tr k e]; simp) (by rw [h.tr k e]; simp)
    · exact h.mp.kept (hk2 _ (by rw [h.tm]; simp) (by rw [h.tm]; simp) (by rw [h.tm]; simp))
    · by_cases he : s' = s ∧ z' = z
      · obtain ⟨rfl, rfl⟩ := he
        show PileAt w' lo (G.pb s' z') (upd G.pg s' z' g' s' z') (upd S.pl s' z' L' s' z')
        rw [upd_same, upd_same]; exact hp
      · show PileAt w' lo (G.pb s' z') (upd G.pg s z g' s' z') (upd S.pl s z L' s' z')
        rw [upd_other _ _ he, upd_other _ _ he]
        refine pile_kept (h.pi s' z' ok') (hk2 _ ?_ ?_ ?_) fun k e => hk2 k ?_ ?_ ?_
        · rw [h.tp s' z' ok']; simp
        · rw [h.tp s' z' ok']; intro e; injection e with e1 e2; exact he ⟨e1, e2⟩
        · rw [h.tp s' z' ok']; simp
        · rw [h.tg s' z' k ok' e]; simp
        · rw [h.tg s' z' k ok' e]; simp
        · rw [h.tg s' z' k ok' e]; intro e; injection e with e1 e2; exact he ⟨e1, e2⟩
    · show (if _ then _ else _) = _; rw [tg2 b (by rw [h.tb]; simp)]; exact h.tb
    · show (if _ then _ else _) = _; rw [tg2 _ (by rw [h.tm]; simp)]; exact h.tm
    · show (if _ then _ else _) = _; rw [tg2 _ (by rw [h.tr k e]; simp)]; exact h.tr k e
    · show (if _ then _ else _) = _; rw [tg2 _ (by rw [h.tp s' z' ok']; simp)]; exact h.tp s' z' ok'
    · by_cases he : s' = s ∧ z' = z
      · obtain ⟨rfl, rfl⟩ := he
        have e : upd G.pg s' z' g' s' z' = some k := e
        rw [upd_same] at e
        exact if_pos e
      · have e : upd G.pg s z g' s' z' = some k := e
        rw [upd_other _ _ he] at e
        show (if _ then _ else _) = _
        rw [tg2 _ (by rw [h.tg s' z' k ok' e]; simp)]; exact h.tg s' z' k ok' e
    · by_cases e : g' = some k
      · exact (hp.row k e).1
      · have hk : (if g' = some k then Tag.prow s z else G.tag k) ≠ .no := hk
        rw [if_neg e] at hk; exact h.low k hk
    · have e : g' ≠ some k := fun e => by have := (hp.row k e).2.1; omega
      show (if _ then _ else _) = _
      rw [if_neg e]; exact h.high k (Nat.le_trans hc.size hk)
  · exact hkeep k hk (by rcases ht with ht | ht <;> rw [ht] <;> simp) (by rcases ht with ht | ht <;> rw [ht] <;> simp)
end Go.Proofs.YtgjojjhppgjkkaaGreat
