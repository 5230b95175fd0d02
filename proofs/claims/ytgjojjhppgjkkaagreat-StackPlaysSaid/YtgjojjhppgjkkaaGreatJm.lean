/- Add with numbers that there aren't (layer 6): nothing comes of it. The stores of the law (layer 7): Table, Made. Made (layer 7's law): a store with things, if they may be. The document's example (layer 7): awake. -/
import Derived.Test.YtgjojjhppgjkkaaGreatHl
import Derived.Test.YtgjojjhppgjkkaaGreatJe
namespace Go.Proofs.YtgjojjhppgjkkaaGreat
open Go.RowKit Go.Maps

/-- What may be added. -/
def addB (S : StoreL) (n owner zone : Int) : Prop := 0 ≤ n ∧ n < S.T.length ∧ 0 ≤ owner ∧ owner < S.seats ∧ 1 ≤ zone ∧ zone ≤ 7
instance (S : StoreL) (n owner zone : Int) : Decidable (addB S n owner zone) := by unfold addB; infer_instance
theorem ptr_form (n : Nat) (pb : Nat → Nat → Nat) (s z : Int) : ∃ p, ptrOf n pb s z = .pointer p := by
  unfold ptrOf
  split
  · exact ⟨_, rfl⟩
  · exact ⟨_, rfl⟩
set_option maxRecDepth 100000 in
set_option maxHeartbeats 4000000 in
theorem add_bad {w : World} {lo b : Nat} {G : Ghost} {S : StoreL} (h : StoreAt w lo b G S) (n owner zone : Int) (ho : Wf owner) (hz : Wf zone) (hb : ¬ addB S n owner zone) :
    Calls Tryz.prog 40 #[.pointer (some ⟨b, 0, none⟩), .int .i64 n, .int .i64 owner, .int .i64 zone] w (RetV w (.tuple #[.int .i64 0, .int .i64 2])) := by
  have HPA := Lib.hid (pileAt_any h ho hz)
  have hT := table_short h.ok
  have hn4 := h.n4
  have hn1 := h.n1
  have HH := Lib.hid h
  obtain ⟨ta, tc, htv⟩ := h.tab.is.form
  have HTV := Lib.hid htv
  have hptr : 0 ≤ n → n < S.T.length → 0 ≤ owner → owner < S.seats → ptrOf S.seats G.pb (canS owner zone) zone = .pointer none := fun h1 h2 h3 h4 => by
    refine if_neg (fun hk => hb ⟨h1, h2, h3, h4, ?_⟩)
    obtain ⟨_, k2, _, k4, k5, _⟩ := hk
    omega
  obtain ⟨p, hp⟩ := ptr_form S.seats G.pb (canS owner zone) zone
  rw [hp] at HPA hptr
  clear h htv hp ho hz hb
  by_cases c1 : n < 0
  · have d1 : decide (n < 0) = true := decide_eq_true c1
    clear hptr c1
    go_enter Tryz.func40, Tryz.ntmps40
    go_wp2_with fail
    refine HPA.out.mono ?_
    rintro e w1 ⟨rfl, hb1⟩
    dsimp only
    go_wp2
    go_ret2
    exact ⟨rfl, hb1⟩
  have d1 : decide (n < 0) = false := decide_eq_false c1
  have HC : Hid (∀ w1, Below w.heap.size w w1 → w1.cell? ⟨b, 0, none⟩ = some (.slice ta S.T.length tc) ∧ w1.cell? ⟨b, 1, none⟩ = some (.int .i64 S.seats)) := Lib.hid fun w1 hb1 => by
    have hh := HH.out.later hb1
    exact ⟨by rw [cell_of_row w1 b 0 _ _ _ hh.hd, ← HTV.out]; rfl, by rw [cell_of_row w1 b 1 _ _ _ hh.hd]; rfl⟩
  by_cases c2 : (S.T.length : Int) ≤ n
  · have d2 : decide ((S.T.length : Int) ≤ n) = true := decide_eq_true c2
    clear hptr c1 c2
    go_enter Tryz.func40, Tryz.ntmps40
    go_wp2_with fail
    refine HPA.out.mono ?_
    rintro e w1 ⟨rfl, hb1⟩
    obtain ⟨k0, k1⟩ := HC.out w1 hb1
    dsimp only
    go_wp2
    go_ret2
    exact ⟨rfl, hb1⟩
  have d2 : decide ((S.T.length : Int) ≤ n) = false := decide_eq_false c2
  by_cases c3 : owner < 0
  · have d3 : decide (owner < 0) = true := decide_eq_true c3
    clear hptr c1 c2 c3
    go_enter Tryz.func40, Tryz.ntmps40
    go_wp2_with fail
    refine HPA.out.mono ?_
    rintro e w1 ⟨rfl, hb1⟩
    obtain ⟨k0, k1⟩ := HC.out w1 hb1
    dsimp only
    go_wp2
    go_ret2
    exact ⟨rfl, hb1⟩
  have d3 : decide (owner < 0) = false := decide_eq_false c3
  by_cases c4 : (S.seats : Int) ≤ owner
  · have d4 : decide ((S.seats : Int) ≤ owner) = true := decide_eq_true c4
    clear hptr c1 c2 c3 c4
    go_enter Tryz.func40, Tryz.ntmps40
    go_wp2_with fail
    refine HPA.out.mono ?_
    rintro e w1 ⟨rfl, hb1⟩
    obtain ⟨k0, k1⟩ := HC.out w1 hb1
    dsimp only
    go_wp2
    go_ret2
    exact ⟨rfl, hb1⟩
  have d4 : decide ((S.seats : Int) ≤ owner) = false := decide_eq_false c4
  have hpp := hptr (by omega) (by omega) (by omega) (by omega)
  injection hpp with hpp
  subst hpp
  clear hptr c1 c2 c3 c4
  go_enter Tryz.func40, Tryz.ntmps40
  go_wp2_with fail
  refine HPA.out.mono ?_
  rintro e w1 ⟨rfl, hb1⟩
  obtain ⟨k0, k1⟩ := HC.out w1 hb1
  dsimp only
  go_wp2
  go_ret2
  exact ⟨rfl, hb1⟩
end Go.Proofs.YtgjojjhppgjkkaaGreat
namespace Go.Proofs.YtgjojjhppgjkkaaGreat
open Go.RowKit Go.Maps

def hurtT : Crd.TermL := ⟨1, 2, 1⟩
def T7 : List Crd.CardL := [⟨1, 0, 0, 0, 0, 0, []⟩, ⟨2, 1, 2, 2, 0, 0, []⟩, ⟨2, 2, 1, 3, 1, 0, []⟩, ⟨3, 1, 0, 0, 0, 0, [hurtT]⟩]
theorem T7_ok : Crd.tableE T7 = 0 := by decide
set_option maxRecDepth 100000 in
set_option maxHeartbeats 4000000 in
theorem table_law (w : World) : Calls Tryz.prog 14 #[] w (fun e w' => ∃ v, e = .returned v ∧ Crd.CardsAt w' v T7 ∧ Below w.heap.size w w') := by
  go_enter Tryz.func14, Tryz.ntmps14
  go_wp2
  go_ret
  refine ⟨_, rfl, ?_, below_alloc2 (below_new w _) _⟩
  have e1 := heap_alloc_new (w.alloc (.cells #[.int .i64 1, .int .i64 2, .int .i64 1] 24)) (.cells #[.int .i64 1, .int .i64 0, .int .i64 0, .int .i64 0, .int .i64 0, .int .i64 0, .slice none 0 0, .int .i64 2, .int .i64 1, .int .i64 2, .int .i64 2, .int .i64 0, .int .i64 0, .slice none 0 0, .int .i64 2, .int .i64 2, .int .i64 1, .int .i64 3, .int .i64 1, .int .i64 0, .slice none 0 0, .int .i64 3, .int .i64 1, .int .i64 0, .int .i64 0, .int .i64 0, .int .i64 0, .slice (some ⟨w.heap.size, 0, none⟩) 1 1] 45)
  rw [World.size_alloc] at e1
  have hc := fun j => cell_of_row _ (w.heap.size + 1) j _ _ _ e1
  have ht := fun j => cell_of_row _ w.heap.size j _ _ _ (heap_alloc_new w (.cells #[.int .i64 1, .int .i64 2, .int .i64 1] 24))
  refine .inr ⟨w.heap.size + 1, 0, 4, rfl, by simp, fun i hi => ?_⟩
  rcases (show i = 0 ∨ i = 1 ∨ i = 2 ∨ i = 3 by simp [T7] at hi; omega) with rfl | rfl | rfl | rfl
  · exact ⟨none, 0, hc 0, hc 1, hc 2, hc 3, hc 4, hc 5, hc 6, .inl ⟨none, 0, rfl, rfl⟩⟩
  · exact ⟨none, 0, hc 7, hc 8, hc 9, hc 10, hc 11, hc 12, hc 13, .inl ⟨none, 0, rfl, rfl⟩⟩
  · exact ⟨none, 0, hc 14, hc 15, hc 16, hc 17, hc 18, hc 19, hc 20, .inl ⟨none, 0, rfl, rfl⟩⟩
  · refine ⟨some ⟨w.heap.size, 0, none⟩, 1, hc 21, hc 22, hc 23, hc 24, hc 25, hc 26, hc 27, .inr ⟨w.heap.size, 0, 1, rfl, by simp; omega, fun j hj => ?_⟩⟩
    obtain rfl : j = 0 := by simp [T7] at hj; omega
    exact ⟨cell_stays (below_new _ _) (ht 0), cell_stays (below_new _ _) (ht 1), cell_stays (below_new _ _) (ht 2)⟩
/-! Things, as they are handed in. -/
structure ThingL where
  card : Int
  owner : Int
  zone : Int
  tapped : Bool
  sick : Bool
def ThingCells (w : World) (b o : Nat) (x : ThingL) : Prop :=
  w.cell? ⟨b, o, none⟩ = some (.int .i64 x.card) ∧ w.cell? ⟨b, o + 1, none⟩ = some (.int .i64 x.owner) ∧ w.cell? ⟨b, o + 2, none⟩ = some (.int .i64 x.zone) ∧ w.cell? ⟨b, o + 3, none⟩ = some (.bool x.tapped) ∧ w.cell? ⟨b, o + 4, none⟩ = some (.bool x.sick)
def ThingsAt (w : World) (v : Value) (l : List ThingL) : Prop :=
  (∃ xa cap, v = .slice xa 0 cap ∧ l = []) ∨ ∃ b off cap, v = .slice (some ⟨b, off, none⟩) l.length cap ∧ b < w.heap.size ∧ ∀ i (h : i < l.length), ThingCells w b (off + i * 5) l[i]
theorem ThingCells.later {w w' : World} {b o : Nat} {x : ThingL} (h : ThingCells w b o x) (hb : Below w.heap.size w w') : ThingCells w' b o x := by
  obtain ⟨c0, c1, c2, c3, c4⟩ := h
  exact ⟨cell_stays hb c0, cell_stays hb c1, cell_stays hb c2, cell_stays hb c3, cell_stays hb c4⟩
theorem ThingsAt.later {w w' : World} {v : Value} {l : List ThingL} (h : ThingsAt w v l) (hb : Below w.heap.size w w') : ThingsAt w' v l := by
  rcases h with h | ⟨b, off, cap, rfl, hlt, hc⟩
  · exact .inl h
  · exact .inr ⟨b, off, cap, rfl, Nat.lt_of_lt_of_le hlt hb.size, fun i hi => (hc i hi).later hb⟩
theorem ThingsAt.form {w : World} {v : Value} {l : List ThingL} (h : ThingsAt w v l) : ∃ xa xc, v = .slice xa l.length xc := by
  rcases h with ⟨xa, cap, rfl, rfl⟩ | ⟨b, off, cap, rfl, _⟩
  · exact ⟨xa, cap, rfl⟩
  · exact ⟨_, cap, rfl⟩
theorem ThingsAt.at {w : World} {xa : Option Addr} {xc : Nat} {l : List ThingL} (h : ThingsAt w (.slice xa l.length xc) l) (k : Nat) (hk : k < l.length) : ∃ b off, xa = some ⟨b, off, none⟩ ∧ ThingCells w b (off + k * 5) l[k] := by
  rcases h with ⟨_, _, _, h2⟩ | ⟨b, off, cap, h1, _, hc⟩
  · subst h2; simp at hk
  · injection h1 with h1 _ _; exact ⟨b, off, h1, hc k hk⟩
def okT (x : ThingL) : Bool := decide (0 ≤ x.card ∧ x.card < 4 ∧ 0 ≤ x.owner ∧ x.owner < 4 ∧ 1 ≤ x.zone ∧ x.zone ≤ 7)
def playT (l : List ThingL) : Prop := l.length ≤ 40 ∧ l.all okT = true
/-- An object, as its thing says. -/
def objT (k : Nat) (x : ThingL) : ObjL := ⟨(k : Int) + 1, x.card, x.owner, x.zone, x.tapped, x.sick, 0, 0, 0, 0, false⟩
def objsT (l : List ThingL) : List ObjL := l.zipIdx.map fun p => objT p.2 p.1
theorem objsT_len (l : List ThingL) : (objsT l).length = l.length := by simp [objsT]
theorem objsT_get (l : List ThingL) (k : Nat) (h : k < l.length) : (objsT l)[k]'(by rw [objsT_len]; exact h) = objT k l[k] := by simp [objsT]
theorem objsT_snoc (l : List ThingL) (x : ThingL) : objsT (l ++ [x]) = objsT l ++ [objT l.length x] := by simp [objsT, List.zipIdx_append]
/-- What is made of things, as a function. -/
def stepF (S : StoreL) (x : ThingL) : StoreL := setL (addL S x.card.toNat x.owner.toNat x.zone.toNat) S.objs.length (objT S.objs.length x)
def madeF (l : List ThingL) : StoreL := l.foldl stepF ⟨T7, 4, [], fun _ _ => []⟩
theorem madeF_snoc (l : List ThingL) (x : ThingL) : madeF (l ++ [x]) = stepF (madeF l) x := by simp [madeF]
structure MadeS (S : StoreL) (l : List ThingL) : Prop where
  T : S.T = T7
  seats : S.seats = 4
  objs : S.objs = objsT l
  wf : WfS S
  fn : S = madeF l
theorem MadeS.len {S : StoreL} {l : List ThingL} (h : MadeS S l) : S.objs.length = l.length := by rw [h.objs, objsT_len]
theorem made_none : MadeS ⟨T7, 4, [], fun _ _ => []⟩ [] := ⟨rfl, rfl, rfl, WfS.none _ _, rfl⟩
/-- An object is added, and set as its thing says. -/
theorem MadeS.step {S : StoreL} {l : List ThingL} {q : Nat} (h : MadeS S l) (x : ThingL) (n owner zone : Nat) (hn : x.card = n) (ho : x.owner = owner) (hz : x.zone = zone) (h1 : n < 4) (h2 : owner < 4) (h3 : 1 ≤ zone) (h4 : zone ≤ 7) (hl : l.length = q) :
    ∃ hk : q < (addL S n owner zone).objs.length, (addL S n owner zone).objs[q].id = (q : Int) + 1 ∧ (addL S n owner zone).objs[q].card = x.card ∧ (addL S n owner zone).objs[q].owner = x.owner ∧ (addL S n owner zone).objs[q].zone = x.zone ∧
      (addL S n owner zone).objs[q] = freshO T7 ((q : Int) + 1) n owner zone ∧ (addL S n owner zone).objs.length = q + 1 ∧ MadeS (setL (addL S n owner zone) q (objT q x)) (l ++ [x]) := by
  subst hl
  have hw : WfS (addL S n owner zone) := h.wf.add (by rw [h.T]; exact h1) (by rw [h.seats]; exact h2) h3 h4
  have hobj : (addL S n owner zone).objs = S.objs ++ [freshO S.T (S.objs.length + 1) n owner zone] := rfl
  have hlen : (addL S n owner zone).objs.length = l.length + 1 := by rw [hobj, List.length_append, h.len]; rfl
  have hk : l.length < (addL S n owner zone).objs.length := by omega
  have hget : (addL S n owner zone).objs[l.length] = freshO T7 ((l.length : Int) + 1) n owner zone := by
    have e : ∀ (L : List ObjL) (y : ObjL) (hL : L.length = l.length) (hh : l.length < (L ++ [y]).length), (L ++ [y])[l.length]'hh = y := fun L y hL hh => by
      rw [List.getElem_append_right (by omega)]
      simp [hL]
    simp only [hobj]
    rw [e _ _ h.len, h.T, h.len]
  have hi := hw.ids l.length hk
  refine ⟨hk, hi.1, by rw [hget]; exact hn.symm, by rw [hget]; exact ho.symm, by rw [hget]; exact hz.symm, hget, hlen, h.T, h.seats, ?_, ?_, ?_⟩
  · show (addL S n owner zone).objs.set l.length (objT l.length x) = objsT (l ++ [x])
    rw [objsT_snoc, hobj, ← h.len, List.set_append_right _ _ (Nat.le_refl _), h.objs]
    simp
  · exact hw.set hk rfl (by rw [hget]; exact hn) (by rw [hget]; exact ho) (by rw [hget]; exact hz)
  · rw [madeF_snoc, ← h.fn]
    unfold stepF
    rw [h.len, hn, ho, hz]
    rfl
end Go.Proofs.YtgjojjhppgjkkaaGreat
namespace Go.Proofs.YtgjojjhppgjkkaaGreat
open Go.RowKit Go.Maps

def RetMade (w : World) (l : List ThingL) (e : Ending) (w' : World) : Prop :=
  (playT l ∧ ∃ b lo G S, e = .returned (.pointer (some ⟨b, 0, none⟩)) ∧ StoreAt w' lo b G S ∧ MadeS S l ∧ w.heap.size ≤ lo ∧ lo ≤ w'.heap.size ∧ Below w.heap.size w w') ∨ (¬playT l ∧ e = .returned (.pointer none) ∧ Below w.heap.size w w')
theorem cards_form {w : World} {v : Value} (h : Crd.CardsAt w v T7) : ∃ xa xc, v = .slice xa 4 xc := h.form
set_option maxRecDepth 100000 in
set_option maxHeartbeats 8000000 in
theorem made_any {w : World} {v : Value} {l : List ThingL} (hv : ThingsAt w v l) (hw : ∀ x ∈ l, Wf x.owner ∧ Wf x.zone) (hlen : l.length ≤ 9223372036854775807) :
    Calls Tryz.prog 10 #[v] w (RetMade w l) := by
  have HV := Lib.hid hv
  have HW := Lib.hid hw
  obtain ⟨va, vc, rfl⟩ := hv.form
  clear hv hw
  by_cases h40 : 40 < l.length
  · have d0 : decide ((40 : Int) < l.length) = true := decide_eq_true (by omega)
    have HN := Lib.hid (show ¬playT l from fun h => by have := h.1; omega)
    go_enter Tryz.func10, Tryz.ntmps10
    go_wp2
    go_ret
    exact .inr ⟨HN.out, rfl, Below.refl _ _⟩
  have d0 : decide ((40 : Int) < l.length) = false := decide_eq_false (by omega)
  have d0' : decide (40 < l.length) = false := decide_eq_false (by omega)
  go_enter Tryz.func10, Tryz.ntmps10
  go_wp2_with fail
  refine (table_law _).mono ?_
  rintro e w1 ⟨tv, rfl, hc, hb1⟩
  have HNW := Lib.hid (newS_ok hc T7_ok 4 (by decide) (by decide))
  obtain ⟨ta, tc, rfl⟩ := cards_form hc
  have HB1 := Lib.hid hb1
  clear hc hb1
  dsimp only
  go_wp2_with fail
  refine HNW.out.mono ?_
  rintro e w2 ⟨b, G, rfl, hst, hb2⟩
  have HB2 := Lib.hid (stepB HB1.out hb2)
  have HS2 := Lib.hid hst
  have HL2 := Lib.hid (And.intro HB1.out.size hb2.size)
  obtain ⟨lo, hlo⟩ : ∃ lo, w1.heap.size = lo := ⟨_, rfl⟩
  rw [hlo] at HS2 HL2
  clear hst hb2 hlo HNW HB1
  dsimp only
  go_wp2
  go_loopw [27] (fun i wr => ∃ (k : Nat) (G : Ghost) (S : StoreL), k ≤ l.length ∧ i = .int .i64 k ∧ Hid (StoreAt wr lo b G S) ∧ Hid (MadeS S (l.take k)) ∧ Hid (Below w.heap.size w wr) ∧ Hid (lo ≤ wr.heap.size) ∧ Hid ((l.take k).all okT = true)) (fun i _ => l.length - (intOf i).toNat)
  case atStart => exact ⟨0, G, _, Nat.zero_le _, rfl, HS2, Lib.hid (by rw [List.take_zero]; exact made_none), HB2, Lib.hid HL2.out.2, Lib.hid rfl⟩
  case round =>
    obtain ⟨k, G3, S3, hk, rfl, H3, HM3, HB3, HL3, HOK⟩ := hrel
    by_cases hlt : k < l.length
    · obtain ⟨tb, off, rfl, t0, t1, t2, t3, t4⟩ := (HV.out.later HB3.out).at k hlt
      have htk := take_last l k hlt
      have hwx := HW.out l[k] (List.getElem_mem hlt)
      have hall : okT l[k] = false → l.all okT = false := Crd.allB_not hlt
      have htl : (l.take k).length = k := by rw [List.length_take]; omega
      obtain ⟨x, hx⟩ : ∃ x, l[k] = x := ⟨_, rfl⟩
      rw [hx] at t0 t1 t2 t3 t4 htk hwx hall
      have HTK := Lib.hid htk
      have HTL := Lib.hid htl
      have HX := Lib.hid hx
      clear hx htk htl
      by_cases hok : okT x = true
      · obtain ⟨x0, x1, x2, tp, sk⟩ := x
        have hok2 := hok
        simp only [okT, decide_eq_true_eq] at hok2
        obtain ⟨n, rfl⟩ : ∃ n : Nat, x0 = n := ⟨x0.toNat, by omega⟩
        obtain ⟨ow, rfl⟩ : ∃ n : Nat, x1 = n := ⟨x1.toNat, by omega⟩
        obtain ⟨z, rfl⟩ : ∃ n : Nat, x2 = n := ⟨x2.toNat, by omega⟩
        obtain ⟨hk3, i0, i1, i2, i3, i4, i5, hm4⟩ := HM3.out.step ⟨n, ow, z, tp, sk⟩ n ow z rfl rfl rfl (by omega) (by omega) (by omega) (by omega) HTL.out
        have hlen3 : S3.objs.length = k := by rw [HM3.out.len]; exact HTL.out
        have hb0 := below_new wr (.cells #[.int .i64 n, .int .i64 ow, .int .i64 z, .bool tp, .bool sk] 79)
        have HAD := Lib.hid (add_ok (H3.out.later hb0) (by have := HL3.out; simp; omega) (HM3.out.wf.short (by omega)) n ow z (by rw [HM3.out.T]; show n < 4; omega) (by rw [HM3.out.seats]; omega) (by omega) (by omega))
        rw [hlen3] at HAD
        obtain ⟨s0, hs0⟩ : ∃ s0, (freshO T7 ((k : Int) + 1) n ow z).sick = s0 := ⟨_, rfl⟩
        have hfr : freshO T7 ((k : Int) + 1) n ow z = ⟨(k : Int) + 1, n, ow, z, false, s0, 0, 0, 0, 0, false⟩ := by rw [← hs0]; rfl
        rw [hfr] at i4
        have HGE := Lib.hid (fun (W' : World) (G' : Ghost) (hs : StoreAt W' lo b G' (addL S3 n ow z)) => get_in hs (by rw [i5]; omega) k hk3)
        rw [i4] at HGE
        have HSE := Lib.hid (fun (W' : World) (G' : Ghost) (hs : StoreAt W' lo b G' (addL S3 n ow z)) => set_any hs (by rw [i5]; omega) k hk3 (objT k ⟨n, ow, z, tp, sk⟩) rfl i1.symm i2.symm i3.symm)
        have HM4 := Lib.hid hm4
        have HBW := Lib.hid (show ∀ q, G3.tag q ≠ .no → w.heap.size ≤ q from fun q hq => Nat.le_trans (by have := HL2.out.1; omega) (H3.out.low q hq))
        have HOK4 := Lib.hid (show (l.take (k + 1)).all okT = true by rw [HTK.out, List.all_append, HOK.out, Bool.true_and]; simp [hok])
        unfold RetGet oagg at HGE
        unfold objT oagg at HSE
        dsimp only at HGE HSE
        have HT0 := Lib.hid (show ∀ j, (wr.alloc (.cells #[.int .i64 n, .int .i64 ow, .int .i64 z, .bool tp, .bool sk] 79)).cell? ⟨wr.heap.size, j, none⟩ = (#[.int .i64 n, .int .i64 ow, .int .i64 z, .bool tp, .bool sk] : Array Value)[j]? from fun j => cell_of_row _ _ j _ _ _ (heap_alloc_new wr _))
        clear hk3 i0 i1 i2 i3 i4 i5 hm4 hs0 hfr hok hok2 hwx hall hb0
        go_wp2_with fail
        refine HAD.out.mono ?_
        rintro e w4 ⟨rfl, G4, hst4, ht4⟩
        have HT4 := Lib.hid (show Turned wr w4 G3 G4 from (Turned.of_below (below_new wr _)).trans ht4)
        have H4 := Lib.hid hst4
        have q3 : w4.cell? ⟨wr.heap.size, 3, none⟩ = some (.bool tp) := by
          rw [World.cell?_of_block (w := wr.alloc (.cells #[.int .i64 n, .int .i64 ow, .int .i64 z, .bool tp, .bool sk] 79)) (a := ⟨wr.heap.size, 3, none⟩) (ht4.chg.block wr.heap.size (by simp) (.inl (H3.out.high _ (Nat.le_refl _))))]
          exact HT0.out 3
        have q4 : w4.cell? ⟨wr.heap.size, 4, none⟩ = some (.bool sk) := by
          rw [World.cell?_of_block (w := wr.alloc (.cells #[.int .i64 n, .int .i64 ow, .int .i64 z, .bool tp, .bool sk] 79)) (a := ⟨wr.heap.size, 4, none⟩) (ht4.chg.block wr.heap.size (by simp) (.inl (H3.out.high _ (Nat.le_refl _))))]
          exact HT0.out 4
        have HG4 := Lib.hid (HGE.out w4 G4 hst4)
        clear hst4 ht4 t0 t1 t2 t3 t4 HGE HT0
        dsimp only
        go_wp2_with fail
        refine HG4.out.mono ?_
        rintro e w5 ⟨rfl, hb5⟩
        have HB5 := Lib.hid hb5
        have r30 := cell_stays (stepB hb5 (below_new w5 (.cells #[.int .i64 ((k : Int) + 1), .int .i64 n, .int .i64 ow, .int .i64 z, .bool false, .bool s0, .int .i64 0, .int .i64 0, .int .i64 0, .int .i64 0, .bool false] 35))) q3
        have r40 := cell_stays (stepB hb5 (below_new w5 (.cells #[.int .i64 ((k : Int) + 1), .int .i64 n, .int .i64 ow, .int .i64 z, .bool false, .bool s0, .int .i64 0, .int .i64 0, .int .i64 0, .int .i64 0, .bool false] 35))) q4
        have r31 := cell_stays (stepB hb5 (below_new w5 (.cells #[.int .i64 ((k : Int) + 1), .int .i64 n, .int .i64 ow, .int .i64 z, .bool false, .bool sk, .int .i64 0, .int .i64 0, .int .i64 0, .int .i64 0, .bool false] 35))) q3
        have r41 := cell_stays (stepB hb5 (below_new w5 (.cells #[.int .i64 ((k : Int) + 1), .int .i64 n, .int .i64 ow, .int .i64 z, .bool false, .bool sk, .int .i64 0, .int .i64 0, .int .i64 0, .int .i64 0, .bool false] 35))) q4
        have r32 := cell_stays (stepB hb5 (below_new w5 (.cells #[.int .i64 ((k : Int) + 1), .int .i64 n, .int .i64 ow, .int .i64 z, .bool tp, .bool s0, .int .i64 0, .int .i64 0, .int .i64 0, .int .i64 0, .bool false] 35))) q3
        have r42 := cell_stays (stepB hb5 (below_new w5 (.cells #[.int .i64 ((k : Int) + 1), .int .i64 n, .int .i64 ow, .int .i64 z, .bool tp, .bool s0, .int .i64 0, .int .i64 0, .int .i64 0, .int .i64 0, .bool false] 35))) q4
        have r33 := cell_stays (stepB hb5 (below_new w5 (.cells #[.int .i64 ((k : Int) + 1), .int .i64 n, .int .i64 ow, .int .i64 z, .bool tp, .bool sk, .int .i64 0, .int .i64 0, .int .i64 0, .int .i64 0, .bool false] 35))) q3
        have r43 := cell_stays (stepB hb5 (below_new w5 (.cells #[.int .i64 ((k : Int) + 1), .int .i64 n, .int .i64 ow, .int .i64 z, .bool tp, .bool sk, .int .i64 0, .int .i64 0, .int .i64 0, .int .i64 0, .bool false] 35))) q4
        clear q3 q4 hb5
        dsimp only
        go_wp2
        go_region
        all_goals
          go_wp2_with fail
          refine (HSE.out _ G4 (H4.out.later (stepB HB5.out (below_new w5 _)).drew)).mono ?_
          rintro e w6 ⟨rfl, G6, hs6, ht6⟩
          have HT6 := Lib.hid ((HT4.out.trans (Turned.of_below (stepB HB5.out (below_new w5 _)).drew)).trans ht6)
          have HB6 := Lib.hid (HT6.out.below HB3.out HBW.out)
          have H6 := Lib.hid (show StoreAt w6 lo b G6 (setL (addL S3 n ow z) k (objT k ⟨n, ow, z, tp, sk⟩)) from hs6)
          have HL6 := Lib.hid (Nat.le_trans HL3.out HT6.out.chg.size)
          have HM6 := Lib.hid (show MadeS (setL (addL S3 n ow z) k (objT k ⟨n, ow, z, tp, sk⟩)) (l.take (k + 1)) by rw [HTK.out]; exact HM4.out)
          clear hs6 ht6
          dsimp only
          go_wp2
          go_roundw
          case rel => exact ⟨k + 1, G6, _, by omega, by go_num, H6, HM6, HB6, HL6, HOK4⟩
          case measure => simp [intOf]; omega
      · have hno : ¬addB S3 x.card x.owner x.zone := fun h => hok (by
          obtain ⟨h1, h2, h3, h4, h5, h6⟩ := h
          rw [HM3.out.T, show T7.length = 4 from rfl] at h2
          rw [HM3.out.seats] at h4
          exact decide_eq_true ⟨h1, by omega, h3, by omega, h5, h6⟩)
        have HAD := Lib.hid (add_bad (H3.out.later (below_new wr (.cells #[.int .i64 x.card, .int .i64 x.owner, .int .i64 x.zone, .bool x.tapped, .bool x.sick] 79))) x.card x.owner x.zone hwx.1 hwx.2 hno)
        have HNP := Lib.hid (show ¬playT l from fun h => by have := h.2; rw [hall (by simpa using hok)] at this; cases this)
        clear hwx hno hok hall
        go_wp2_with fail
        refine HAD.out.mono ?_
        rintro e w4 ⟨rfl, hb4⟩
        dsimp only
        go_wp2
        go_ret
        exact .inr ⟨HNP.out, rfl, stepB (below_alloc2 HB3.out _) hb4⟩
    · obtain rfl : k = l.length := by omega
      have hm := HM3.out
      have ho := HOK.out
      rw [List.take_length] at hm ho
      have HM := Lib.hid hm
      have HP := Lib.hid (show playT l from ⟨by omega, ho⟩)
      clear hm ho
      go_wp2
      go_ret
      exact .inl ⟨HP.out, b, lo, G3, S3, rfl, H3.out, HM.out, HL2.out.1, HL3.out, HB3.out⟩
end Go.Proofs.YtgjojjhppgjkkaaGreat
namespace Go.Proofs.YtgjojjhppgjkkaaGreat
open Go.RowKit Go.Maps

def oneT : ThingL := ⟨0, 0, 3, false, false⟩
def threeT : List ThingL := [oneT, oneT, oneT]
end Go.Proofs.YtgjojjhppgjkkaaGreat
