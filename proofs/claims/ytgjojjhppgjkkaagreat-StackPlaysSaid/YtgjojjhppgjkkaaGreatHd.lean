/- What a store tells and doesn't change (layer 6): placeOf, pileAt, In, Top, Len, Seats, Get. An object of a store (layer 6): Get, and what it reads; Set writes it. -/
import Derived.Test.YtgjojjhppgjkkaaGreatHb
import Derived.Deep.RegionHeld3
import Derived.Deep.RegionLaw
namespace Go.Proofs.YtgjojjhppgjkkaaGreat
open Go.RowKit Go.Maps

def canS (s z : Int) : Int := if z = 3 ∨ z = 4 then 0 else s
theorem canS_wf {s z : Int} (hs : Wf s) : Wf (canS s z) := by
  unfold canS
  split
  · exact ⟨by decide, by decide⟩
  · exact hs
set_option maxRecDepth 100000 in
set_option maxHeartbeats 2000000 in
theorem placeOf_any (s z : Int) (w : World) : Calls Tryz.prog 98 #[.int .i64 s, .int .i64 z] w (RetV w (kv (canS s z) z)) := by
  by_cases h3 : z = 3
  · subst h3
    go_enter Tryz.func98, Tryz.ntmps98
    go_wp2
    refine bodyPost_ret (by simp [results, Tryz.results98, go_sem]; rfl) rfl ⟨rfl, ?_⟩
    exact below_new w _
  · by_cases h4 : z = 4
    · subst h4
      go_enter Tryz.func98, Tryz.ntmps98
      go_wp2
      refine bodyPost_ret (by simp [results, Tryz.results98, go_sem]; rfl) rfl ⟨rfl, ?_⟩
      exact below_new w _
    · have e3 : (z == 3) = false := beq_eq_false_iff_ne.2 h3
      have e4 : (z == 4) = false := beq_eq_false_iff_ne.2 h4
      have hc : canS s z = s := if_neg (by omega)
      rw [hc]
      go_enter Tryz.func98, Tryz.ntmps98
      go_wp2
      refine bodyPost_ret (by simp [results, Tryz.results98, go_sem]; rfl) rfl ⟨rfl, ?_⟩
      exact below_new w _
set_option maxRecDepth 100000 in
theorem pileAt_none (s z : Int) (w : World) : Calls Tryz.prog 59 #[.pointer none, .int .i64 s, .int .i64 z] w (Same w (.pointer none)) := by
  go_enter Tryz.func59, Tryz.ntmps59
  go_wp2
  go_ret
  exact ⟨rfl, rfl⟩
set_option maxRecDepth 100000 in
set_option maxHeartbeats 2000000 in
theorem pileAt_any {w : World} {lo b : Nat} {G : Ghost} {S : StoreL} (h : StoreAt w lo b G S) {s z : Int} (hs : Wf s) (hz : Wf z) :
    Calls Tryz.prog 59 #[.pointer (some ⟨b, 0, none⟩), .int .i64 s, .int .i64 z] w (RetV w (ptrOf S.seats G.pb (canS s z) z)) := by
  have c3 : w.cell? ⟨b, 3, none⟩ = some (.map (some G.mb)) := by rw [cell_of_row w b 3 _ _ _ h.hd]; rfl
  have HM := Lib.hid (fun (w' : World) (hb : Below w.heap.size w w') => (h.mp.kept (hb.block _ h.mp.lt)).look (canS_wf (z := z) hs) hz)
  have HH := Lib.hid h
  clear h
  go_enter Tryz.func59, Tryz.ntmps59
  go_wp2
  go_region_with ((go_at_call 98; refine (placeOf_any s z _).mono ?_; rintro e w1 ⟨rfl, hb1⟩; have hb1' := stepB (below_drewN (Below.refl w.heap.size w) _) hb1; have hl := HM.out w1 hb1'; have c3' := cell_stays hb1' c3))
  all_goals (go_wp2; go_ret; exact ⟨rfl, by assumption⟩)
/-- A list of its own. -/
theorem okK_of {n : Nat} {s z : Int} (h : okI n s z) : okK n s.toNat z.toNat := h.2.2
def inL (S : StoreL) (s z : Int) : List Int := if okI S.seats (canS s z) z then S.pl (canS s z).toNat z.toNat else []
def ShortS (S : StoreL) : Prop := S.objs.length ≤ 1000 ∧ ∀ s z, okK S.seats s z → (S.pl s z).length ≤ 1000
theorem listNil_any (w : World) : Calls Tryz.prog 65 #[.pointer none] w (Same w (.slice none 0 0)) := by
  go_enter Tryz.func65, Tryz.ntmps65
  go_wp2
  go_ret
  exact ⟨rfl, rfl⟩
set_option maxRecDepth 100000 in
theorem in_none (s z : Int) (w : World) : Calls Tryz.prog 36 #[.pointer none, .int .i64 s, .int .i64 z] w (Same w (.slice none 0 0)) := by
  go_enter Tryz.func36, Tryz.ntmps36
  go_wp2_with fail
  refine (pileAt_none s z _).mono ?_
  rintro e w1 ⟨rfl, rfl⟩
  go_wp2_with fail
  refine (listNil_any _).mono ?_
  rintro e w2 ⟨rfl, rfl⟩
  go_wp2
  go_ret
  exact ⟨rfl, rfl⟩
theorem list_ptr {w : World} {lo b : Nat} {G : Ghost} {S : StoreL} (h : StoreAt w lo b G S) (hS : ShortS S) (s z : Int) :
    Calls Tryz.prog 65 #[ptrOf S.seats G.pb (canS s z) z] w (RetList w (inL S s z)) := by
  unfold ptrOf inL
  by_cases hk : okI S.seats (canS s z) z
  · rw [if_pos hk, if_pos hk]
    exact list_any (h.pi _ _ hk.2.2) (hS.2 _ _ hk.2.2)
  · rw [if_neg hk, if_neg hk]
    refine (listNil_any w).mono ?_
    rintro e w' ⟨rfl, rfl⟩
    exact ⟨_, rfl, World.ownsRow_nil _ _ _ _, Below.refl _ _⟩
set_option maxRecDepth 100000 in
set_option maxHeartbeats 2000000 in
theorem in_any {w : World} {lo b : Nat} {G : Ghost} {S : StoreL} (h : StoreAt w lo b G S) (hS : ShortS S) {s z : Int} (hs : Wf s) (hz : Wf z) :
    Calls Tryz.prog 36 #[.pointer (some ⟨b, 0, none⟩), .int .i64 s, .int .i64 z] w (RetList w (inL S s z)) := by
  have HP := Lib.hid (pileAt_any h hs hz)
  have HL := Lib.hid (fun (w' : World) (hb : Below w.heap.size w w') => list_ptr (h.later hb) hS s z)
  clear h
  go_enter Tryz.func36, Tryz.ntmps36
  go_wp2_with fail
  refine HP.out.mono ?_
  rintro e w1 ⟨rfl, hb1⟩
  go_wp2_with fail
  refine (HL.out w1 hb1).mono ?_
  rintro e w2 ⟨v, rfl, ho, hb2⟩
  go_wp2
  go_ret
  refine ⟨v, rfl, ⟨ho.1, ?_⟩, stepB hb1 hb2⟩
  rcases ho.2 with h0 | ⟨g, cap, cur, e, hb, r⟩
  · exact .inl h0
  · exact .inr ⟨g, cap, cur, e, Nat.le_trans hb1.size hb, r⟩
/-- The first one, if there is one. -/
theorem lenNil_any (w : World) : Calls Tryz.prog 102 #[.pointer none] w (Same w (.int .i64 0)) := by
  go_enter Tryz.func102, Tryz.ntmps102
  go_wp2
  go_ret
  exact ⟨rfl, rfl⟩
set_option maxRecDepth 100000 in
theorem atNil_any (w : World) : Calls Tryz.prog 104 #[.pointer none, .int .i64 0] w (Same w (.tuple #[.int .i64 0, .bool false])) := by
  go_enter Tryz.func104, Tryz.ntmps104
  go_wp2_with fail
  refine (lenNil_any _).mono ?_
  rintro e w1 ⟨rfl, rfl⟩
  go_wp2
  go_ret2
  exact ⟨rfl, rfl⟩
theorem at_zero {w : World} {lo b : Nat} {g : Option Nat} {L : List Int} (h : PileAt w lo b g L) :
    Calls Tryz.prog 104 #[.pointer (some ⟨b, 0, none⟩), .int .i64 0] w (Same w (.tuple #[.int .i64 (L.headD 0), .bool (decide (0 < L.length))])) := by
  cases L with
  | nil => exact at_out 0 h (.inr (by simp))
  | cons x L => exact at_in (k := 0) h (by simp)
def topL (S : StoreL) (s z : Int) : Value := .tuple #[.int .i64 ((inL S s z).headD 0), .bool (decide (0 < (inL S s z).length))]
set_option maxRecDepth 100000 in
set_option maxHeartbeats 2000000 in
theorem top_any {w : World} {lo b : Nat} {G : Ghost} {S : StoreL} (h : StoreAt w lo b G S) {s z : Int} (hs : Wf s) (hz : Wf z) :
    Calls Tryz.prog 64 #[.pointer (some ⟨b, 0, none⟩), .int .i64 s, .int .i64 z] w (RetV w (topL S s z)) := by
  have HP := Lib.hid (pileAt_any h hs hz)
  have HL : Hid (∀ w', Below w.heap.size w w' → Calls Tryz.prog 104 #[ptrOf S.seats G.pb (canS s z) z, .int .i64 0] w' (Same w' (.tuple #[.int .i64 ((inL S s z).headD 0), .bool (decide (0 < (inL S s z).length))]))) := Lib.hid (by
    intro w' hb
    unfold ptrOf inL
    by_cases hk : okI S.seats (canS s z) z
    · rw [if_pos hk, if_pos hk]; exact at_zero ((h.later hb).pi _ _ hk.2.2)
    · rw [if_neg hk, if_neg hk]; exact atNil_any w')
  unfold topL
  obtain ⟨x, hx⟩ : ∃ x, (inL S s z).headD 0 = x := ⟨_, rfl⟩
  obtain ⟨y, hy⟩ : ∃ y, decide (0 < (inL S s z).length) = y := ⟨_, rfl⟩
  rw [hx, hy] at HL ⊢
  clear h hx hy
  go_enter Tryz.func64, Tryz.ntmps64
  go_wp2_with fail
  refine HP.out.mono ?_
  rintro e w1 ⟨rfl, hb1⟩
  go_wp2_with fail
  refine (HL.out w1 hb1).mono ?_
  rintro e w2 ⟨rfl, rfl⟩
  go_wp2
  go_ret2
  exact ⟨rfl, hb1⟩
end Go.Proofs.YtgjojjhppgjkkaaGreat
namespace Go.Proofs.YtgjojjhppgjkkaaGreat
open Go.RowKit Go.Maps

def zeroO : ObjL := ⟨0, 0, 0, 0, false, false, 0, 0, 0, 0, false⟩
/-- An object's cells at a place. -/
def ObjCells (w : World) (g o : Nat) (x : ObjL) : Prop :=
  w.cell? ⟨g, o, none⟩ = some (.int .i64 x.id) ∧ w.cell? ⟨g, o + 1, none⟩ = some (.int .i64 x.card) ∧ w.cell? ⟨g, o + 2, none⟩ = some (.int .i64 x.owner) ∧ w.cell? ⟨g, o + 3, none⟩ = some (.int .i64 x.zone) ∧
  w.cell? ⟨g, o + 4, none⟩ = some (.bool x.tapped) ∧ w.cell? ⟨g, o + 5, none⟩ = some (.bool x.sick) ∧ w.cell? ⟨g, o + 6, none⟩ = some (.int .i64 x.hurt) ∧ w.cell? ⟨g, o + 7, none⟩ = some (.int .i64 x.count) ∧
  w.cell? ⟨g, o + 8, none⟩ = some (.int .i64 x.boost) ∧ w.cell? ⟨g, o + 9, none⟩ = some (.int .i64 x.block) ∧ w.cell? ⟨g, o + 10, none⟩ = some (.bool x.attacks)
theorem ObjCells.later {w w' : World} {g o : Nat} {x : ObjL} (h : ObjCells w g o x) (hb : Below w.heap.size w w') : ObjCells w' g o x := by
  obtain ⟨c0, c1, c2, c3, c4, c5, c6, c7, c8, c9, c10⟩ := h
  exact ⟨cell_stays hb c0, cell_stays hb c1, cell_stays hb c2, cell_stays hb c3, cell_stays hb c4, cell_stays hb c5, cell_stays hb c6, cell_stays hb c7, cell_stays hb c8, cell_stays hb c9, cell_stays hb c10⟩
/-- Objects in a row of their own. -/
theorem own_obj {w : World} {lo : Nat} {v : Value} {l : List ObjL} (h : w.ownsRow lo 35 11 v l.length (objsV l)) (k : Nat) (hk : k < l.length) :
    ∃ g cap, v = .slice (some ⟨g, 0, none⟩) l.length cap ∧ ObjCells w g (k * 11) l[k] ∧ (∀ j, w.frozen? ⟨g, j, none⟩ = false) := by
  rcases h.2 with ⟨_, h0⟩ | ⟨g, cap, cur, e, hb, hg, hn, hm, hs, ht⟩
  · omega
  · refine ⟨g, cap, e, ?_, fun j => frozen_of_row w g j _ _ hg⟩
    have hc : ∀ j (hj : j < 11), w.cell? ⟨g, k * 11 + j, none⟩ = (ocells l[k])[j]? := fun j hj => by
      rw [← objsV_at l k j hk hj, cell_of_row w g (k * 11 + j) _ _ (0, 0) hg, ← ht, List.getElem?_take_of_lt (by omega)]
      simp
    exact ⟨hc 0 (by decide), hc 1 (by decide), hc 2 (by decide), hc 3 (by decide), hc 4 (by decide), hc 5 (by decide), hc 6 (by decide), hc 7 (by decide), hc 8 (by decide), hc 9 (by decide), hc 10 (by decide)⟩
theorem own_form {w : World} {lo sz : Nat} {t : TypeId} {v : Value} {n : Nat} {xs : List Value} (h : w.ownsRow lo t sz v n xs) : ∃ xa xc, v = .slice xa n xc := by
  rcases h.2 with ⟨e, e2⟩ | ⟨g, cap, cur, e, _⟩
  · exact ⟨none, 0, by rw [e, e2]⟩
  · exact ⟨_, _, e⟩
def RetGet (w : World) (o : ObjL) (n : Int) (e : Ending) (w' : World) : Prop := e = .returned (.tuple #[oagg o, .int .i64 n]) ∧ Below w.heap.size w w'
set_option maxRecDepth 100000 in
set_option maxHeartbeats 2000000 in
theorem get_in {w : World} {lo b : Nat} {G : Ghost} {S : StoreL} (h : StoreAt w lo b G S) (hS : S.objs.length ≤ 1000) (k : Nat) (hk : k < S.objs.length) :
    Calls Tryz.prog 13 #[.pointer (some ⟨b, 0, none⟩), .int .i64 ((k : Int) + 1)] w (RetGet w S.objs[k] 0) := by
  obtain ⟨g, cap, hv, hc, _⟩ := own_obj h.ob k hk
  have c2 : w.cell? ⟨b, 2, none⟩ = some (.slice (some ⟨g, 0, none⟩) S.objs.length cap) := by rw [cell_of_row w b 2 _ _ _ h.hd, ← hv]; rfl
  obtain ⟨x, hx⟩ : ∃ x, S.objs[k] = x := ⟨_, rfl⟩
  rw [hx] at hc ⊢
  obtain ⟨o0, o1, o2, o3, o4, o5, o6, o7, o8, o9, o10⟩ := hc
  have d0 : decide ((k : Int) + 1 < 1) = false := decide_eq_false (by omega)
  have d1 : decide ((S.objs.length : Int) < (k : Int) + 1) = false := decide_eq_false (by omega)
  have d2 : (k : Int) + 1 - 1 = k := by omega
  obtain ⟨W, hW⟩ : ∃ W, w.alloc (.cells #[.int .i64 0, .int .i64 0, .int .i64 0, .int .i64 0, .bool false, .bool false, .int .i64 0, .int .i64 0, .int .i64 0, .int .i64 0, .bool false] 35) = W := ⟨_, rfl⟩
  have hb : Below w.heap.size w W := hW ▸ below_new w _
  have c2' := cell_stays hb c2
  have o0' := cell_stays hb o0
  have o1' := cell_stays hb o1
  have o2' := cell_stays hb o2
  have o3' := cell_stays hb o3
  have o4' := cell_stays hb o4
  have o5' := cell_stays hb o5
  have o6' := cell_stays hb o6
  have o7' := cell_stays hb o7
  have o8' := cell_stays hb o8
  have o9' := cell_stays hb o9
  have o10' := cell_stays hb o10
  subst hW
  clear h hv hx c2 o0 o1 o2 o3 o4 o5 o6 o7 o8 o9 o10
  go_enter Tryz.func13, Tryz.ntmps13
  go_wp2
  refine bodyPost_ret (by simp [results, Tryz.results13, go_sem]; rfl) rfl ⟨rfl, ?_⟩
  exact below_new w _
theorem get_out {w : World} {lo b : Nat} {G : Ghost} {S : StoreL} (h : StoreAt w lo b G S) (_hS : S.objs.length ≤ 1000) (i : Int) (hi : i < 1 ∨ (S.objs.length : Int) < i) :
    Calls Tryz.prog 13 #[.pointer (some ⟨b, 0, none⟩), .int .i64 i] w (RetGet w zeroO 7) := by
  obtain ⟨xa, xc, hv⟩ := own_form h.ob
  have c2 : w.cell? ⟨b, 2, none⟩ = some (.slice xa S.objs.length xc) := by rw [cell_of_row w b 2 _ _ _ h.hd, ← hv]; rfl
  obtain ⟨W, hW⟩ : ∃ W, w.alloc (.cells #[.int .i64 0, .int .i64 0, .int .i64 0, .int .i64 0, .bool false, .bool false, .int .i64 0, .int .i64 0, .int .i64 0, .int .i64 0, .bool false] 35) = W := ⟨_, rfl⟩
  have hb : Below w.heap.size w W := hW ▸ below_new w _
  have c2' := cell_stays hb c2
  subst hW
  clear h hv c2
  by_cases h1 : i < 1
  · go_enter Tryz.func13, Tryz.ntmps13
    go_wp2
    refine bodyPost_ret (by simp [results, Tryz.results13, go_sem]; rfl) rfl ⟨rfl, ?_⟩
    exact below_new w _
  · have d0 : decide (i < 1) = false := decide_eq_false h1
    have d1 : decide ((S.objs.length : Int) < i) = true := decide_eq_true (by omega)
    go_enter Tryz.func13, Tryz.ntmps13
    go_wp2
    refine bodyPost_ret (by simp [results, Tryz.results13, go_sem]; rfl) rfl ⟨rfl, ?_⟩
    exact below_new w _
theorem get_nil (i : Int) (w : World) : Calls Tryz.prog 13 #[.pointer none, .int .i64 i] w (RetGet w zeroO 1) := by
  go_enter Tryz.func13, Tryz.ntmps13
  go_wp2
  refine bodyPost_ret (by simp [results, Tryz.results13, go_sem]; rfl) rfl ⟨rfl, ?_⟩
  exact below_new w _
/-- The objects' row is another one, or holds others. -/
theorem StoreAt.objsTo {w w' : World} {lo b : Nat} {G : Ghost} {S : StoreL} {v' : Value} {l' : List ObjL} (h : StoreAt w lo b G S) (hr : w'.ownsRow lo 35 11 v' l'.length (objsV l'))
    (hd : w'.heap[b]? = some (.cells #[G.tv, .int .i64 S.seats, v', .map (some G.mb)] 101 (0, 0)))
    (hos : w'.os = w.os) (htape : w'.tape = w.tape) (hout : w'.output = w.output) (hsz : w.heap.size ≤ w'.heap.size)
    (hk : ∀ k, k < w.heap.size → k ≠ b → G.ov.ownBlock ≠ some k → w'.heap[k]? = w.heap[k]?) (hn : ∀ k, v'.ownBlock = some k → G.ov.ownBlock = some k ∨ w.heap.size ≤ k) :
    ∃ G', StoreAt w' lo b G' { S with objs := l' } ∧ Turned w w' G G' ∧ G'.pb = G.pb ∧ G'.ov = v' ∧ G'.mb = G.mb ∧ G'.tv = G.tv := by
  classical
  have hnt : ∀ k, k < w.heap.size → (if v'.ownBlock = some k then Tag.row else G.tag k) = G.tag k := fun k hk => by
    split
    · rename_i e
      rcases hn k e with e | e
      · exact (h.tr k e).symm
      · omega
    · rfl
  have tg2 : ∀ k, G.tag k ≠ .no → (if v'.ownBlock = some k then Tag.row else G.tag k) = G.tag k := fun k hk => hnt k (h.tagLt hk)
  have hkeep : ∀ k, G.tag k ≠ .no → G.tag k ≠ .head → G.tag k ≠ .row → w'.heap[k]? = w.heap[k]? := fun k h0 h1 h2 =>
    hk k (h.tagLt h0) (fun e => h1 (by rw [e]; exact h.tb)) (fun e => h2 (h.tr k e))
  refine ⟨{ G with ov := v', tag := fun k => if v'.ownBlock = some k then .row else G.tag k }, ?_, ⟨⟨hos, htape, hout, hsz, fun k hk' ht => ?_⟩, hnt⟩, rfl, rfl, rfl, rfl⟩
  · refine ⟨hd, ?_, hr, ?_, fun s z ok => ?_, ?_, ?_, fun k e => if_pos e, fun s z ok => ?_, fun s z k ok e => ?_, fun k hk' => ?_, fun k hk' => ?_, h.n1, h.n4, h.ok⟩
    · exact h.tab.kept fun k ht => ⟨hkeep k (by rw [ht]; simp) (by rw [ht]; simp) (by rw [ht]; simp), by show (if _ then _ else _) = _; rw [tg2 k (by rw [ht]; simp)]; exact ht⟩
    · exact h.mp.kept (hkeep _ (by rw [h.tm]; simp) (by rw [h.tm]; simp) (by rw [h.tm]; simp))
    · exact pile_kept (h.pi s z ok) (hkeep _ (by rw [h.tp s z ok]; simp) (by rw [h.tp s z ok]; simp) (by rw [h.tp s z ok]; simp)) fun k e => hkeep _ (by rw [h.tg s z k ok e]; simp) (by rw [h.tg s z k ok e]; simp) (by rw [h.tg s z k ok e]; simp)
    · show (if _ then _ else _) = _; rw [tg2 b (by rw [h.tb]; simp)]; exact h.tb
    · show (if _ then _ else _) = _; rw [tg2 _ (by rw [h.tm]; simp)]; exact h.tm
    · show (if _ then _ else _) = _; rw [tg2 _ (by rw [h.tp s z ok]; simp)]; exact h.tp s z ok
    · show (if _ then _ else _) = _; rw [tg2 _ (by rw [h.tg s z k ok e]; simp)]; exact h.tg s z k ok e
    · by_cases e : v'.ownBlock = some k
      · exact (World.ownsRow.lt hr k e).1
      · have hk' : (if v'.ownBlock = some k then Tag.row else G.tag k) ≠ .no := hk'
        rw [if_neg e] at hk'; exact h.low k hk'
    · have e : v'.ownBlock ≠ some k := fun e => by have := (World.ownsRow.lt hr k e).2; omega
      show (if _ then _ else _) = _
      rw [if_neg e]; exact h.high k (Nat.le_trans hsz hk')
  · refine hk k hk' (fun e => ?_) (fun e => ?_)
    · rw [e, h.tb] at ht; simp at ht
    · rw [h.tr k e] at ht; simp at ht
theorem ocells_len (x : ObjL) : (ocells x).length = 11 := rfl
theorem own_setObj {w : World} {lo k g cap : Nat} {v : Value} {l : List ObjL} (h : w.ownsRow lo 35 11 v l.length (objsV l)) (hk : k < l.length) (hv : v = .slice (some ⟨g, 0, none⟩) l.length cap) (x : ObjL) :
    (w.setCells g (k * 11) (ocells x)).ownsRow lo 35 11 v (l.set k x).length (objsV (l.set k x)) := by
  have hl := objsV_len (l.set k x)
  rw [List.length_set] at hl ⊢
  refine ⟨hl, ?_⟩
  rcases h.2 with ⟨e, _⟩ | ⟨g', cap', cur, e, hb, hg, hn, hm, hs, ht⟩
  · rw [hv] at e; cases e
  · rw [hv] at e
    injection e with e1 _ e2
    injection e1 with e1
    injection e1 with e1 _ _
    subst e1 e2
    have hsz : k * 11 + (ocells x).length ≤ cur.size := by rw [ocells_len, hs]; omega
    refine .inr ⟨g, cap, _, hv, hb, heap_setCells_same _ _ hg hsz, hn, hm, ?_, ?_⟩
    · rw [List.size_toArray, length_splice _ _ _ (by simpa using hsz)]; simpa using hs
    · have hcur : cur.toList = objsV (l.take k) ++ ocells l[k] ++ (objsV (l.drop (k + 1)) ++ cur.toList.drop (l.length * 11)) := by
        have e1 : objsV l = objsV (l.take k) ++ ocells l[k] ++ objsV (l.drop (k + 1)) := by
          conv => lhs; rw [← List.take_append_drop k l, objsV_append, List.drop_eq_getElem_cons hk]
          simp only [objsV, List.flatMap_cons, List.append_assoc]
        have e2 := (List.take_append_drop (l.length * 11) cur.toList).symm
        rw [ht, e1, List.append_assoc] at e2
        exact e2
      have hlen : k * 11 = (objsV (l.take k)).length := by rw [objsV_len, List.length_take]; congr 1; omega
      have hL : l.set k x = l.take k ++ x :: l.drop (k + 1) := List.set_eq_take_append_cons_drop.trans (if_pos hk)
      rw [List.toList_toArray, hcur, hlen, splice_mid _ _ _ (ocells x) (show (ocells l[k]).length = (ocells x).length from rfl), ← List.append_assoc]
      have : objsV (l.set k x) = objsV (l.take k) ++ ocells x ++ objsV (l.drop (k + 1)) := by rw [hL, objsV_append]; simp [objsV]
      rw [← this]
      exact List.take_left' (by rw [hl])
theorem setCells_obj (w : World) (g o : Nat) (x : ObjL) : w.setCells g o (ocells x) = (((((((((((w.setCell ⟨g, o, none⟩ (.int .i64 x.id)).setCell ⟨g, o + 1, none⟩ (.int .i64 x.card)).setCell ⟨g, o + 2, none⟩ (.int .i64 x.owner)).setCell ⟨g, o + 3, none⟩ (.int .i64 x.zone)).setCell ⟨g, o + 4, none⟩ (.bool x.tapped)).setCell ⟨g, o + 5, none⟩ (.bool x.sick)).setCell ⟨g, o + 6, none⟩ (.int .i64 x.hurt)).setCell ⟨g, o + 7, none⟩ (.int .i64 x.count)).setCell ⟨g, o + 8, none⟩ (.int .i64 x.boost)).setCell ⟨g, o + 9, none⟩ (.int .i64 x.block)).setCell ⟨g, o + 10, none⟩ (.bool x.attacks)) := rfl
theorem StoreAt.setObj {w : World} {lo b k g cap : Nat} {G : Ghost} {S : StoreL} (h : StoreAt w lo b G S) (hk : k < S.objs.length) (hv : G.ov = .slice (some ⟨g, 0, none⟩) S.objs.length cap) (x : ObjL) :
    ∃ G', StoreAt (w.setCells g (k * 11) (ocells x)) lo b G' { S with objs := S.objs.set k x } ∧ Turned w (w.setCells g (k * 11) (ocells x)) G G' := by
  have hgr := grown_setCells g (ocells x) (k * 11) w
  have hob : G.ov.ownBlock = some g := by rw [hv]; rfl
  have hne : b ≠ g := fun e => by have h1 := h.tb; have h2 := h.tr g hob; rw [e, h2] at h1; cases h1
  obtain ⟨G', h1, h2, _⟩ := h.objsTo (l' := S.objs.set k x) (v' := G.ov) (w' := w.setCells g (k * 11) (ocells x)) (own_setObj h.ob hk hv x) ((hgr.block b h.lt (by simpa using hne)).trans h.hd) hgr.os hgr.tape hgr.output hgr.size
    (fun j hj _ h2 => hgr.block j hj (fun e => h2 (hob.trans e.symm))) (fun j e => .inl e)
  exact ⟨G', h1, h2⟩
def ocs (x : ObjL) : Array Value := #[.int .i64 x.id, .int .i64 x.card, .int .i64 x.owner, .int .i64 x.zone, .bool x.tapped, .bool x.sick, .int .i64 x.hurt, .int .i64 x.count, .int .i64 x.boost, .int .i64 x.block, .bool x.attacks]
theorem box_obj (w : World) (x : ObjL) : ObjCells (w.alloc (.cells (ocs x) 35)) w.heap.size 0 x := by
  have hc : ∀ j, (w.alloc (.cells (ocs x) 35)).cell? ⟨w.heap.size, j, none⟩ = (ocs x)[j]? := fun j => cell_of_row _ _ j _ _ (0, 0) (heap_alloc_new w _)
  exact ⟨hc 0, hc 1, hc 2, hc 3, hc 4, hc 5, hc 6, hc 7, hc 8, hc 9, hc 10⟩
def RetS (w : World) (lo b : Nat) (G : Ghost) (S : StoreL) (v : Value) (e : Ending) (w' : World) : Prop := e = .returned v ∧ ∃ G', StoreAt w' lo b G' S ∧ Turned w w' G G'
set_option maxRecDepth 100000 in
set_option maxHeartbeats 4000000 in
theorem set_any {w : World} {lo b : Nat} {G : Ghost} {S : StoreL} (h : StoreAt w lo b G S) (hS : S.objs.length ≤ 1000) (k : Nat) (hk : k < S.objs.length) (x : ObjL)
    (h0 : x.id = (k : Int) + 1) (h1 : x.card = S.objs[k].card) (h2 : x.owner = S.objs[k].owner) (h3 : x.zone = S.objs[k].zone) :
    Calls Tryz.prog 41 #[.pointer (some ⟨b, 0, none⟩), oagg x] w (RetS w lo b G { S with objs := S.objs.set k x } (.int .i64 0)) := by
  have HG := Lib.hid (fun (w' : World) (hb : Below w.heap.size w w') => get_in (h.later hb) hS k hk)
  obtain ⟨x0, x1, x2, x3, x4, x5, x6, x7, x8, x9, x10⟩ := x
  dsimp only at h0 h1 h2 h3
  subst h0 h1 h2 h3
  have HH := Lib.hid h
  obtain ⟨y, hy⟩ : ∃ y, S.objs[k] = y := ⟨_, rfl⟩
  rw [hy] at HG ⊢
  unfold RetGet oagg at HG
  unfold oagg
  clear h
  dsimp only at HG ⊢
  have eq0 : ∀ z : Int, (z != z) = false := fun z => bne_self_eq_false z
  have E0 := eq0 y.card
  have E1 := eq0 y.owner
  have E2 := eq0 y.zone
  clear eq0
  obtain ⟨x, hx⟩ : ∃ x : ObjL, x = ⟨(k : Int) + 1, y.card, y.owner, y.zone, x4, x5, x6, x7, x8, x9, x10⟩ := ⟨_, rfl⟩
  have HX := Lib.hid (show ObjCells (w.alloc (.cells #[.int .i64 ((k : Int) + 1), .int .i64 y.card, .int .i64 y.owner, .int .i64 y.zone, .bool x4, .bool x5, .int .i64 x6, .int .i64 x7, .int .i64 x8, .int .i64 x9, .bool x10] 35)) w.heap.size 0 ⟨(k : Int) + 1, y.card, y.owner, y.zone, x4, x5, x6, x7, x8, x9, x10⟩ from box_obj w ⟨(k : Int) + 1, y.card, y.owner, y.zone, x4, x5, x6, x7, x8, x9, x10⟩)
  rw [← hx]
  have HXX := Lib.hid hx
  clear hx
  go_enter Tryz.func41, Tryz.ntmps41
  go_wp2_with fail
  refine (HG.out _ (below_new w _)).mono ?_
  rintro e w1 ⟨rfl, hb1⟩
  obtain ⟨W, hW⟩ : ∃ W, w1.alloc (.cells #[.int .i64 y.id, .int .i64 y.card, .int .i64 y.owner, .int .i64 y.zone, .bool y.tapped, .bool y.sick, .int .i64 y.hurt, .int .i64 y.count, .int .i64 y.boost, .int .i64 y.block, .bool y.attacks] 35) = W := ⟨_, rfl⟩
  have hbx : Below (w.alloc (.cells #[.int .i64 ((k : Int) + 1), .int .i64 y.card, .int .i64 y.owner, .int .i64 y.zone, .bool x4, .bool x5, .int .i64 x6, .int .i64 x7, .int .i64 x8, .int .i64 x9, .bool x10] 35)).heap.size (w.alloc (.cells #[.int .i64 ((k : Int) + 1), .int .i64 y.card, .int .i64 y.owner, .int .i64 y.zone, .bool x4, .bool x5, .int .i64 x6, .int .i64 x7, .int .i64 x8, .int .i64 x9, .bool x10] 35)) W := stepB hb1 (hW ▸ below_new w1 _)
  have hbw : Below w.heap.size w W := stepB (below_new w _) hbx
  obtain ⟨p0, p1, p2, p3, p4, p5, p6, p7, p8, p9, p10⟩ := HX.out.later hbx
  have HW := Lib.hid (HH.out.later hbw)
  have HBW := Lib.hid hbw
  have hrow := own_obj HW.out.ob k hk
  obtain ⟨g, cap, hv, ⟨o0, o1, o2, o3, o4, o5, o6, o7, o8, o9, o10⟩, hfr⟩ := hrow
  have c2 : W.cell? ⟨b, 2, none⟩ = some (.slice (some ⟨g, 0, none⟩) S.objs.length cap) := by rw [cell_of_row W b 2 _ _ _ HW.out.hd, ← hv]; rfl
  simp only [Nat.zero_add] at p1 p2 p3 p4 p5 p6 p7 p8 p9 p10
  have HV := Lib.hid hv
  have d2 : (k : Int) + 1 - 1 = k := by omega
  subst hW
  clear hb1 hbx hbw hv
  go_wp2
  go_region
  all_goals
    go_wp2
    refine bodyPost_ret (by simp [results, Tryz.results41, go_sem]) rfl ⟨rfl, ?_⟩
    obtain ⟨G', h1, h2⟩ := HW.out.setObj hk HV.out x
    rw [setCells_obj] at h1 h2
    rw [HXX.out] at h1 h2 ⊢
    dsimp only at h1 h2
    exact ⟨G', h1.later (Below.refl _ _).drew, ((Turned.of_below HBW.out).trans h2).trans (Turned.of_below (Below.refl _ _).drew)⟩
end Go.Proofs.YtgjojjhppgjkkaaGreat
