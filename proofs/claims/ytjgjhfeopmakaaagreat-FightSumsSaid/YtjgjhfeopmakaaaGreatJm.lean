/- Add with numbers that there aren't (layer 6): nothing comes of it. The stores of the law (layer 7): Table, Made. Made (layer 7's law): a store with things, if they may be. The document's example (layer 7): awake. -/
import Derived.Test.YtjgjhfeopmakaaaGreatHl
import Derived.Test.YtjgjhfeopmakaaaGreatJe
namespace Go.Proofs.YtjgjhfeopmakaaaGreat
open Go.RowKit Go.Maps

/-- What may be added. -/
def addB (S : StoreL) (n owner zone : Int) : Prop := 0 ≤ n ∧ n < S.T.length ∧ 0 ≤ owner ∧ owner < S.seats ∧ 1 ≤ zone ∧ zone ≤ 7
instance (S : StoreL) (n owner zone : Int) : Decidable (addB S n owner zone) := by unfold addB; infer_instance
theorem ptr_form (n : Nat) (pb : Nat → Nat → Nat) (s z : Int) : ∃ p, ptrOf n pb s z = .pointer p := by
  unfold ptrOf
  split
  · exact ⟨_, rfl⟩
  · exact ⟨_, rfl⟩
set_option maxRecDepth 100000 in
set_option maxHeartbeats 4000000 in
theorem add_bad {w : World} {lo b : Nat} {G : Ghost} {S : StoreL} (h : StoreAt w lo b G S) (n owner zone : Int) (ho : Wf owner) (hz : Wf zone) (hb : ¬ addB S n owner zone) :
    Calls Tryz.prog 25 #[.pointer (some ⟨b, 0, none⟩), .int .i64 n, .int .i64 owner, .int .i64 zone] w (RetV w (.tuple #[.int .i64 0, .int .i64 2])) := by
  have HPA := Lib.hid (pileAt_any h ho hz)
  have hT := table_short h.ok
  have hn4 := h.n4
  have hn1 := h.n1
  have HH := Lib.hid h
  obtain ⟨ta, tc, htv⟩ := h.tab.is.form
  have HTV := Lib.hid htv
  have hptr : 0 ≤ n → n < S.T.length → 0 ≤ owner → owner < S.seats → ptrOf S.seats G.pb (canS owner zone) zone = .pointer none := fun h1 h2 h3 h4 => by
    refine if_neg (fun hk => hb ⟨h1, h2, h3, h4, ?_⟩)
    obtain ⟨_, k2, _, k4, k5, _⟩ := hk
    omega
  obtain ⟨p, hp⟩ := ptr_form S.seats G.pb (canS owner zone) zone
  rw [hp] at HPA hptr
  clear h htv hp ho hz hb
  by_cases c1 : n < 0
  · have d1 : decide (n < 0) = true := decide_eq_true c1
    clear hptr c1
    go_enter Tryz.func25, Tryz.ntmps25
    go_wp2_with fail
    refine HPA.out.mono ?_
    rintro e w1 ⟨rfl, hb1⟩
    dsimp only
    go_wp2
    go_ret2
    exact ⟨rfl, hb1⟩
  have d1 : decide (n < 0) = false := decide_eq_false c1
  have HC : Hid (∀ w1, Below w.heap.size w w1 → w1.cell? ⟨b, 0, none⟩ = some (.slice ta S.T.length tc) ∧ w1.cell? ⟨b, 1, none⟩ = some (.int .i64 S.seats)) := Lib.hid fun w1 hb1 => by
    have hh := HH.out.later hb1
    exact ⟨by rw [cell_of_row w1 b 0 _ _ _ hh.hd, ← HTV.out]; rfl, by rw [cell_of_row w1 b 1 _ _ _ hh.hd]; rfl⟩
  by_cases c2 : (S.T.length : Int) ≤ n
  · have d2 : decide ((S.T.length : Int) ≤ n) = true := decide_eq_true c2
    clear hptr c1 c2
    go_enter Tryz.func25, Tryz.ntmps25
    go_wp2_with fail
    refine HPA.out.mono ?_
    rintro e w1 ⟨rfl, hb1⟩
    obtain ⟨k0, k1⟩ := HC.out w1 hb1
    dsimp only
    go_wp2
    go_ret2
    exact ⟨rfl, hb1⟩
  have d2 : decide ((S.T.length : Int) ≤ n) = false := decide_eq_false c2
  by_cases c3 : owner < 0
  · have d3 : decide (owner < 0) = true := decide_eq_true c3
    clear hptr c1 c2 c3
    go_enter Tryz.func25, Tryz.ntmps25
    go_wp2_with fail
    refine HPA.out.mono ?_
    rintro e w1 ⟨rfl, hb1⟩
    obtain ⟨k0, k1⟩ := HC.out w1 hb1
    dsimp only
    go_wp2
    go_ret2
    exact ⟨rfl, hb1⟩
  have d3 : decide (owner < 0) = false := decide_eq_false c3
  by_cases c4 : (S.seats : Int) ≤ owner
  · have d4 : decide ((S.seats : Int) ≤ owner) = true := decide_eq_true c4
    clear hptr c1 c2 c3 c4
    go_enter Tryz.func25, Tryz.ntmps25
    go_wp2_with fail
    refine HPA.out.mono ?_
    rintro e w1 ⟨rfl, hb1⟩
    obtain ⟨k0, k1⟩ := HC.out w1 hb1
    dsimp only
    go_wp2
    go_ret2
    exact ⟨rfl, hb1⟩
  have d4 : decide ((S.seats : Int) ≤ owner) = false := decide_eq_false c4
  have hpp := hptr (by omega) (by omega) (by omega) (by omega)
  injection hpp with hpp
  subst hpp
  clear hptr c1 c2 c3 c4
  go_enter Tryz.func25, Tryz.ntmps25
  go_wp2_with fail
  refine HPA.out.mono ?_
  rintro e w1 ⟨rfl, hb1⟩
  obtain ⟨k0, k1⟩ := HC.out w1 hb1
  dsimp only
  go_wp2
  go_ret2
  exact ⟨rfl, hb1⟩
end Go.Proofs.YtjgjhfeopmakaaaGreat
namespace Go.Proofs.YtjgjhfeopmakaaaGreat
open Go.RowKit Go.Maps

def hurtT : Crd.TermL := ⟨1, 2, 1⟩
def T7 : List Crd.CardL := [⟨1, 0, 0, 0, 0, 0, []⟩, ⟨2, 1, 2, 2, 0, 0, []⟩, ⟨2, 2, 1, 3, 1, 0, []⟩, ⟨3, 1, 0, 0, 0, 0, [hurtT]⟩]
theorem T7_ok : Crd.tableE T7 = 0 := by decide
structure ThingL where
  card : Int
  owner : Int
  zone : Int
  tapped : Bool
  sick : Bool
def ThingCells (w : World) (b o : Nat) (x : ThingL) : Prop :=
  w.cell? ⟨b, o, none⟩ = some (.int .i64 x.card) ∧ w.cell? ⟨b, o + 1, none⟩ = some (.int .i64 x.owner) ∧ w.cell? ⟨b, o + 2, none⟩ = some (.int .i64 x.zone) ∧ w.cell? ⟨b, o + 3, none⟩ = some (.bool x.tapped) ∧ w.cell? ⟨b, o + 4, none⟩ = some (.bool x.sick)
def ThingsAt (w : World) (v : Value) (l : List ThingL) : Prop :=
  (∃ xa cap, v = .slice xa 0 cap ∧ l = []) ∨ ∃ b off cap, v = .slice (some ⟨b, off, none⟩) l.length cap ∧ b < w.heap.size ∧ ∀ i (h : i < l.length), ThingCells w b (off + i * 5) l[i]
theorem ThingCells.later {w w' : World} {b o : Nat} {x : ThingL} (h : ThingCells w b o x) (hb : Below w.heap.size w w') : ThingCells w' b o x := by
  obtain ⟨c0, c1, c2, c3, c4⟩ := h
  exact ⟨cell_stays hb c0, cell_stays hb c1, cell_stays hb c2, cell_stays hb c3, cell_stays hb c4⟩
theorem ThingsAt.later {w w' : World} {v : Value} {l : List ThingL} (h : ThingsAt w v l) (hb : Below w.heap.size w w') : ThingsAt w' v l := by
  rcases h with h | ⟨b, off, cap, rfl, hlt, hc⟩
  · exact .inl h
  · exact .inr ⟨b, off, cap, rfl, Nat.lt_of_lt_of_le hlt hb.size, fun i hi => (hc i hi).later hb⟩
theorem ThingsAt.form {w : World} {v : Value} {l : List ThingL} (h : ThingsAt w v l) : ∃ xa xc, v = .slice xa l.length xc := by
  rcases h with ⟨xa, cap, rfl, rfl⟩ | ⟨b, off, cap, rfl, _⟩
  · exact ⟨xa, cap, rfl⟩
  · exact ⟨_, cap, rfl⟩
theorem ThingsAt.at {w : World} {xa : Option Addr} {xc : Nat} {l : List ThingL} (h : ThingsAt w (.slice xa l.length xc) l) (k : Nat) (hk : k < l.length) : ∃ b off, xa = some ⟨b, off, none⟩ ∧ ThingCells w b (off + k * 5) l[k] := by
  rcases h with ⟨_, _, _, h2⟩ | ⟨b, off, cap, h1, _, hc⟩
  · subst h2; simp at hk
  · injection h1 with h1 _ _; exact ⟨b, off, h1, hc k hk⟩
def okT (x : ThingL) : Bool := decide (0 ≤ x.card ∧ x.card < 4 ∧ 0 ≤ x.owner ∧ x.owner < 4 ∧ 1 ≤ x.zone ∧ x.zone ≤ 7)
def playT (l : List ThingL) : Prop := l.length ≤ 40 ∧ l.all okT = true
/-- An object, as its thing says. -/
def objT (k : Nat) (x : ThingL) : ObjL := ⟨(k : Int) + 1, x.card, x.owner, x.zone, x.tapped, x.sick, 0, 0, 0, 0, false⟩
def objsT (l : List ThingL) : List ObjL := l.zipIdx.map fun p => objT p.2 p.1
theorem objsT_len (l : List ThingL) : (objsT l).length = l.length := by simp [objsT]
theorem objsT_get (l : List ThingL) (k : Nat) (h : k < l.length) : (objsT l)[k]'(by rw [objsT_len]; exact h) = objT k l[k] := by simp [objsT]
theorem objsT_snoc (l : List ThingL) (x : ThingL) : objsT (l ++ [x]) = objsT l ++ [objT l.length x] := by simp [objsT, List.zipIdx_append]
/-- What is made of things, as a function. -/
def stepF (S : StoreL) (x : ThingL) : StoreL := setL (addL S x.card.toNat x.owner.toNat x.zone.toNat) S.objs.length (objT S.objs.length x)
def madeF (l : List ThingL) : StoreL := l.foldl stepF ⟨T7, 4, [], fun _ _ => []⟩
theorem madeF_snoc (l : List ThingL) (x : ThingL) : madeF (l ++ [x]) = stepF (madeF l) x := by simp [madeF]
structure MadeS (S : StoreL) (l : List ThingL) : Prop where
  T : S.T = T7
  seats : S.seats = 4
  objs : S.objs = objsT l
  wf : WfS S
  fn : S = madeF l
theorem MadeS.len {S : StoreL} {l : List ThingL} (h : MadeS S l) : S.objs.length = l.length := by rw [h.objs, objsT_len]
theorem made_none : MadeS ⟨T7, 4, [], fun _ _ => []⟩ [] := ⟨rfl, rfl, rfl, WfS.none _ _, rfl⟩
/-- An object is added, and set as its thing says. -/
theorem MadeS.step {S : StoreL} {l : List ThingL} {q : Nat} (h : MadeS S l) (x : ThingL) (n owner zone : Nat) (hn : x.card = n) (ho : x.owner = owner) (hz : x.zone = zone) (h1 : n < 4) (h2 : owner < 4) (h3 : 1 ≤ zone) (h4 : zone ≤ 7) (hl : l.length = q) :
    ∃ hk : q < (addL S n owner zone).objs.length, (addL S n owner zone).objs[q].id = (q : Int) + 1 ∧ (addL S n owner zone).objs[q].card = x.card ∧ (addL S n owner zone).objs[q].owner = x.owner ∧ (addL S n owner zone).objs[q].zone = x.zone ∧
      (addL S n owner zone).objs[q] = freshO T7 ((q : Int) + 1) n owner zone ∧ (addL S n owner zone).objs.length = q + 1 ∧ MadeS (setL (addL S n owner zone) q (objT q x)) (l ++ [x]) := by
  subst hl
  have hw : WfS (addL S n owner zone) := h.wf.add (by rw [h.T]; exact h1) (by rw [h.seats]; exact h2) h3 h4
  have hobj : (addL S n owner zone).objs = S.objs ++ [freshO S.T (S.objs.length + 1) n owner zone] := rfl
  have hlen : (addL S n owner zone).objs.length = l.length + 1 := by rw [hobj, List.length_append, h.len]; rfl
  have hk : l.length < (addL S n owner zone).objs.length := by omega
  have hget : (addL S n owner zone).objs[l.length] = freshO T7 ((l.length : Int) + 1) n owner zone := by
    have e : ∀ (L : List ObjL) (y : ObjL) (hL : L.length = l.length) (hh : l.length < (L ++ [y]).length), (L ++ [y])[l.length]'hh = y := fun L y hL hh => by
      rw [List.getElem_append_right (by omega)]
      simp [hL]
    simp only [hobj]
    rw [e _ _ h.len, h.T, h.len]
  have hi := hw.ids l.length hk
  refine ⟨hk, hi.1, by rw [hget]; exact hn.symm, by rw [hget]; exact ho.symm, by rw [hget]; exact hz.symm, hget, hlen, h.T, h.seats, ?_, ?_, ?_⟩
  · show (addL S n owner zone).objs.set l.length (objT l.length x) = objsT (l ++ [x])
    rw [objsT_snoc, hobj, ← h.len, List.set_append_right _ _ (Nat.le_refl _), h.objs]
    simp
  · exact hw.set hk rfl (by rw [hget]; exact hn) (by rw [hget]; exact ho) (by rw [hget]; exact hz)
  · rw [madeF_snoc, ← h.fn]
    unfold stepF
    rw [h.len, hn, ho, hz]
    rfl
end Go.Proofs.YtjgjhfeopmakaaaGreat
namespace Go.Proofs.YtjgjhfeopmakaaaGreat
open Go.RowKit Go.Maps

def RetMade (w : World) (l : List ThingL) (e : Ending) (w' : World) : Prop :=
  (playT l ∧ ∃ b lo G S, e = .returned (.pointer (some ⟨b, 0, none⟩)) ∧ StoreAt w' lo b G S ∧ MadeS S l ∧ w.heap.size ≤ lo ∧ lo ≤ w'.heap.size ∧ Below w.heap.size w w') ∨ (¬playT l ∧ e = .returned (.pointer none) ∧ Below w.heap.size w w')
theorem cards_form {w : World} {v : Value} (h : Crd.CardsAt w v T7) : ∃ xa xc, v = .slice xa 4 xc := h.form
end Go.Proofs.YtjgjhfeopmakaaaGreat
namespace Go.Proofs.YtjgjhfeopmakaaaGreat
open Go.RowKit Go.Maps

def oneT : ThingL := ⟨0, 0, 3, false, false⟩
def threeT : List ThingL := [oneT, oneT, oneT]
end Go.Proofs.YtjgjhfeopmakaaaGreat
