/- The contract of object.New (layer 6). What a store's calls keep (layer 6): each object in just one pile, behind Add, Move and Set. -/
import Derived.Test.YtgjojjhppgjkkaaGreatHj
import Derived.Test.YtgjojjhppgjkkaaGreatHg
namespace Go.Proofs.YtgjojjhppgjkkaaGreat
open Go.RowKit Go.Maps

theorem MapP.mapD {D : DataW Unit} {n : Nat} {pb : Nat → Nat → Nat} (h : MapP D (okK n) pb) : MapD D n pb := by
  refine ⟨fun s z w1 w2 => ?_, h.val, h.only⟩
  have := h.has s z w1 w2
  by_cases e : okI n s z
  · rw [decide_eq_true e]; exact this.2 e
  · rw [decide_eq_false e]
    cases hh : Maps.has D (kl s z)
    · rfl
    · exact absurd (this.1 hh) e
theorem WfS.none (T : List Crd.CardL) (n : Nat) : WfS ⟨T, n, [], fun _ _ => []⟩ where
  ids := fun k h => by simp at h
  nodup := fun _ _ _ => List.nodup_nil
  mem := fun _ _ _ id => ⟨fun h => by simp at h, fun ⟨k, h, _⟩ => by simp at h⟩
/-- A store out of its parts. -/
theorem store_of {w w1 w2 w3 : World} {mb n : Nat} {v : Value} {T : List Crd.CardL} {D : DataW Unit} {pb : Nat → Nat → Nat} {pg : Nat → Nat → Option Nat} {L : Nat → Nat → List Int} {tag : Nat → Tag}
    (h1 : Below w.heap.size w w1) (h2 : Below w1.heap.size w1 w2) (h3 : Below w2.heap.size w2 w3) (ht : TabFrom w2 w1.heap.size v T) (hp : PInv w3 w2.heap.size mb 28 (okK n) D pb pg L tag) (n1 : 1 ≤ n) (n4 : n ≤ 4) (hT : Crd.tableE T = 0) :
    ∃ G, StoreAt (w3.alloc (.cells #[v, .int .i64 n, .slice none 0 0, .map (some mb)] 101)) w.heap.size w3.heap.size G ⟨T, n, [], L⟩ := by
  classical
  have s1 := h1.size
  have s2 := h2.size
  have s3 := h3.size
  have ha := below_new w3 (.cells #[v, .int .i64 n, .slice none 0 0, .map (some mb)] 101)
  have hq := hp.later ha
  have htg : ∀ k, tag k ≠ .no → (if k = w3.heap.size then Tag.head else if w1.heap.size ≤ k ∧ k < w2.heap.size then .tab else tag k) = tag k := fun k hk => by
    have h1 := hp.low k hk
    have h2 : k < w3.heap.size := Classical.byContradiction fun hn => hk (hp.high k (by omega))
    rw [if_neg (by omega), if_neg (by omega)]
  refine ⟨⟨v, .slice none 0 0, mb, pb, pg, fun k => if k = w3.heap.size then .head else if w1.heap.size ≤ k ∧ k < w2.heap.size then .tab else tag k⟩, heap_alloc_new w3 _, ?_, World.ownsRow_nil _ _ _ _, ?_, fun s z ok => (hq.pi s z ok).mono (by omega), if_pos rfl, ?_, fun k e => ?_, fun s z ok => ?_, fun s z k ok e => ?_, fun k hk => ?_, fun k hk => ?_, n1, n4, hT⟩
  · intro W' hW
    refine ht W' fun k hk1 hk2 => ?_
    have e := hW k (by show (if _ then _ else _) = _; rw [if_neg (by omega), if_pos ⟨hk1, hk2⟩])
    rw [e, ha.block k (by omega), h3.block k hk2]
  · exact ⟨D, hq.mp.mono (by omega), Nat.le_trans hq.mp.size_le (by omega), hq.md.mapD⟩
  · show (if _ then _ else _) = _; rw [htg mb (by rw [hp.tm]; simp)]; exact hp.tm
  · have e : (Value.slice none 0 0).ownBlock = some k := e
    simp [Value.ownBlock] at e
  · show (if _ then _ else _) = _; rw [htg _ (by rw [hp.tp s z ok]; simp)]; exact hp.tp s z ok
  · show (if _ then _ else _) = _; rw [htg _ (by rw [hp.tg s z k ok e]; simp)]; exact hp.tg s z k ok e
  · by_cases e : k = w3.heap.size
    · omega
    · have hk : (if k = w3.heap.size then Tag.head else if w1.heap.size ≤ k ∧ k < w2.heap.size then .tab else tag k) ≠ .no := hk
      rw [if_neg e] at hk
      by_cases e2 : w1.heap.size ≤ k ∧ k < w2.heap.size
      · omega
      · rw [if_neg e2] at hk
        have := hp.low k hk
        omega
  · have hk : (w3.alloc _).heap.size ≤ k := hk
    simp at hk
    show (if _ then _ else _) = _
    rw [if_neg (by omega), if_neg (by omega)]
    exact hp.high k (by omega)
def RetNewS (w : World) (T : List Crd.CardL) (n : Nat) (e : Ending) (w' : World) : Prop :=
  ∃ b G, e = .returned (.tuple #[.pointer (some ⟨b, 0, none⟩), .int .i64 0]) ∧ StoreAt w' w.heap.size b G ⟨T, n, [], fun _ _ => []⟩ ∧ Below w.heap.size w w'
set_option maxRecDepth 100000 in
set_option maxHeartbeats 4000000 in
theorem newS_ok {w : World} {v : Value} {T : List Crd.CardL} (h : Crd.CardsAt w v T) (ht : Crd.tableE T = 0) (n : Nat) (h1 : 1 ≤ n) (h4 : n ≤ 4) : Calls Tryz.prog 39 #[v, .int .i64 n] w (RetNewS w T n) := by
  have hT := table_short ht
  have HTB := Crd.table_any h (by omega) (fun c hc => by
    obtain ⟨k, hk, rfl⟩ := List.getElem_of_mem hc
    have := may_terms ht k hk
    omega)
  rw [ht] at HTB
  have HT := Lib.hid HTB
  have HOW := Lib.hid (fun (w' : World) (hb : Below w.heap.size w w') => own_any (h.later hb) ht)
  have HT0 := Lib.hid ht
  have d0 : decide ((n : Int) < 1) = false := decide_eq_false (by omega)
  have d1 : decide ((4 : Int) < (n : Int)) = false := decide_eq_false (by omega)
  have d2 : decide (4 < n) = false := decide_eq_false (by omega)
  have d3 : decide (n < 1) = false := decide_eq_false (by omega)
  clear h ht HTB
  go_enter Tryz.func39, Tryz.ntmps39
  go_wp2_with fail
  refine HT.out.mono ?_
  rintro e w1 ⟨rfl, hb1⟩
  have HB1 := Lib.hid hb1
  clear hb1
  dsimp only
  go_wp2_with fail
  refine (HOW.out w1 HB1.out).mono ?_
  rintro e w2 ⟨v', rfl, htf, hb2⟩
  obtain ⟨va, vc, rfl⟩ := (htf w2 fun _ _ _ => rfl).form
  have HB2 := Lib.hid hb2
  have HTF := Lib.hid htf
  clear hb2 htf
  dsimp only
  go_wp2_with fail
  refine (emptyPiles_any n w2 h1 h4).mono ?_
  rintro e w3 ⟨mb, D, pb, pg, tag, rfl, hp, hb3⟩
  have HB3 := Lib.hid hb3
  have HP := Lib.hid hp
  clear hb3 hp
  dsimp only
  go_wp2
  go_ret2
  obtain ⟨G, hst⟩ := store_of HB1.out HB2.out HB3.out HTF.out HP.out h1 h4 HT0.out
  exact ⟨w3.heap.size, G, rfl, hst, stepB (stepB (stepB HB1.out HB2.out) HB3.out) (below_new w3 _)⟩
end Go.Proofs.YtgjojjhppgjkkaaGreat
namespace Go.Proofs.YtgjojjhppgjkkaaGreat
open Go.RowKit Go.Maps

theorem insL_perm (L : List Int) (i : Nat) (x : Int) : (insL L i x).Perm (x :: L) := by
  unfold insL
  refine List.perm_middle.trans ?_
  rw [List.take_append_drop]
theorem layL_new {L : List Int} {x : Int} (i : Nat) (h : x ∉ L) : layL L i x = insL L i x := if_neg h
theorem insL_end (L : List Int) (x : Int) : insL L L.length x = L ++ [x] := by simp [insL]
theorem insL_top (L : List Int) (x : Int) : insL L 0 x = x :: L := by simp [insL]
theorem fresh_key (T : List Crd.CardL) (id n : Int) (owner zone : Nat) : keyS (freshO T id n owner zone) = canN owner zone := by simp [keyS, freshO]
theorem WfS.notIn {S : StoreL} (h : WfS S) {s z : Nat} (ok : okK S.seats s z) : ((S.objs.length : Int) + 1) ∉ S.pl s z := fun hm => by
  obtain ⟨k, hk, e, _⟩ := (h.mem s z ok _).1 hm
  omega
theorem addL_pl {S : StoreL} (h : WfS S) {n owner zone : Nat} (ho : owner < S.seats) (h1 : 1 ≤ zone) (h7 : zone ≤ 7) :
    (addL S n owner zone).pl = upd S.pl (canN owner zone) zone (S.pl (canN owner zone) zone ++ [(S.objs.length : Int) + 1]) := by
  unfold addL
  dsimp only
  rw [layL_new _ (h.notIn (canN_ok ho h1 h7)), insL_end]
theorem WfS.add {S : StoreL} (h : WfS S) {n owner zone : Nat} (hn : n < S.T.length) (ho : owner < S.seats) (h1 : 1 ≤ zone) (h7 : zone ≤ 7) : WfS (addL S n owner zone) := by
  have hpl := addL_pl (n := n) h ho h1 h7
  have ok0 := canN_ok ho h1 h7
  have hobj : (addL S n owner zone).objs = S.objs ++ [freshO S.T (S.objs.length + 1) n owner zone] := rfl
  refine ⟨fun k hk => ?_, fun s z ok => ?_, fun s z ok id => ?_⟩
  · simp only [hobj] at hk ⊢
    rw [List.length_append, List.length_singleton] at hk
    by_cases e : k < S.objs.length
    · rw [List.getElem_append_left e]; exact h.ids k e
    · obtain rfl : k = S.objs.length := by omega
      rw [List.getElem_append_right (Nat.le_refl _)]
      simp only [Nat.sub_self, List.getElem_cons_zero]
      exact ⟨rfl, show (0 : Int) ≤ (n : Int) by omega, show (n : Int) < (S.T.length : Int) by omega, show (0 : Int) ≤ (owner : Int) by omega, show (owner : Int) < (S.seats : Int) by omega, show (1 : Int) ≤ (zone : Int) by omega, show (zone : Int) ≤ 7 by omega⟩
  · rw [hpl]
    by_cases e : s = canN owner zone ∧ z = zone
    · obtain ⟨rfl, rfl⟩ := e
      rw [upd_same]
      have := (insL_perm (S.pl (canN owner z) z) (S.pl (canN owner z) z).length ((S.objs.length : Int) + 1)).nodup_iff
      rw [insL_end] at this
      exact this.2 (List.nodup_cons.2 ⟨h.notIn ok0, h.nodup _ _ ok0⟩)
    · rw [upd_other _ _ e]; exact h.nodup s z ok
  · have hold := h.mem s z ok id
    rw [hpl]
    have hex : (∃ k, ∃ hk : k < (addL S n owner zone).objs.length, id = (k : Int) + 1 ∧ keyS (addL S n owner zone).objs[k] = s ∧ (addL S n owner zone).objs[k].zone.toNat = z) ↔
        (∃ k, ∃ hk : k < S.objs.length, id = (k : Int) + 1 ∧ keyS S.objs[k] = s ∧ S.objs[k].zone.toNat = z) ∨ (id = (S.objs.length : Int) + 1 ∧ canN owner zone = s ∧ zone = z) := by
      simp only [hobj]
      constructor
      · rintro ⟨k, hk, e1, e2, e3⟩
        rw [List.length_append, List.length_singleton] at hk
        by_cases e : k < S.objs.length
        · rw [List.getElem_append_left e] at e2 e3
          exact .inl ⟨k, e, e1, e2, e3⟩
        · obtain rfl : k = S.objs.length := by omega
          rw [List.getElem_append_right (Nat.le_refl _)] at e2 e3
          simp only [Nat.sub_self, List.getElem_cons_zero] at e2 e3
          rw [fresh_key] at e2
          exact .inr ⟨e1, e2, by simpa [freshO] using e3⟩
      · rintro (⟨k, hk, e1, e2, e3⟩ | ⟨e1, e2, e3⟩)
        · refine ⟨k, by rw [List.length_append]; omega, e1, ?_, ?_⟩
          · rw [List.getElem_append_left hk]; exact e2
          · rw [List.getElem_append_left hk]; exact e3
        · refine ⟨S.objs.length, by simp, e1, ?_, ?_⟩
          · rw [List.getElem_append_right (Nat.le_refl _)]
            simp only [Nat.sub_self, List.getElem_cons_zero]
            rw [fresh_key]; exact e2
          · rw [List.getElem_append_right (Nat.le_refl _)]
            simpa [freshO] using e3
    rw [hex]
    by_cases e : s = canN owner zone ∧ z = zone
    · obtain ⟨rfl, rfl⟩ := e
      rw [upd_same, List.mem_append, List.mem_singleton, hold]
      simp
    · rw [upd_other _ _ e, hold]
      constructor
      · exact .inl
      · rintro (h | ⟨_, e2, e3⟩)
        · exact h
        · exact absurd ⟨e2.symm, e3.symm⟩ e
theorem WfS.set {S : StoreL} (h : WfS S) {k : Nat} (hk : k < S.objs.length) {x : ObjL} (h0 : x.id = (k : Int) + 1) (h1 : x.card = S.objs[k].card) (h2 : x.owner = S.objs[k].owner) (h3 : x.zone = S.objs[k].zone) : WfS { S with objs := S.objs.set k x } := by
  have hget : ∀ j (hj : j < S.objs.length), ((S.objs.set k x)[j]'(by simpa using hj)).card = S.objs[j].card ∧ ((S.objs.set k x)[j]'(by simpa using hj)).owner = S.objs[j].owner ∧ ((S.objs.set k x)[j]'(by simpa using hj)).zone = S.objs[j].zone ∧ ((S.objs.set k x)[j]'(by simpa using hj)).id = (j : Int) + 1 := fun j hj => by
    rw [List.getElem_set]
    split
    · rename_i e; subst e; exact ⟨h1, h2, h3, h0⟩
    · exact ⟨rfl, rfl, rfl, (h.ids j hj).1⟩
  refine ⟨fun j hj => ?_, h.nodup, fun s z ok id => ?_⟩
  · have hj' : j < S.objs.length := by simpa using hj
    have := hget j hj'
    obtain ⟨_, r⟩ := h.ids j hj'
    show ((S.objs.set k x)[j]'hj).id = _ ∧ _
    rw [this.2.2.2, this.1, this.2.1, this.2.2.1]
    exact ⟨rfl, r⟩
  · rw [h.mem s z ok id]
    show _ ↔ ∃ j, ∃ hj : j < (S.objs.set k x).length, _
    constructor
    · rintro ⟨j, hj, e1, e2, e3⟩
      have := hget j hj
      refine ⟨j, by simpa using hj, e1, ?_, ?_⟩
      · rw [← e2]; unfold keyS; rw [this.2.1, this.2.2.1]
      · rw [← e3, this.2.2.1]
    · rintro ⟨j, hj, e1, e2, e3⟩
      have hj' : j < S.objs.length := by simpa using hj
      have := hget j hj'
      refine ⟨j, hj', e1, ?_, ?_⟩
      · rw [← e2]; unfold keyS; rw [this.2.1, this.2.2.1]
      · rw [← e3, this.2.2.1]
theorem key_ok {S : StoreL} (h : WfS S) {k : Nat} (hk : k < S.objs.length) : okK S.seats (keyS S.objs[k]) S.objs[k].zone.toNat := by
  obtain ⟨_, _, _, h1, h2, h3, h4⟩ := h.ids k hk
  exact canN_ok (by omega) (by omega) (by omega)
/-- Off its pile, an object is in none. -/
theorem WfS.off {S : StoreL} (h : WfS S) {k : Nat} (hk : k < S.objs.length) {s z : Nat} (ok : okK S.seats s z) :
    ((k : Int) + 1) ∉ upd S.pl (keyS S.objs[k]) S.objs[k].zone.toNat ((S.pl (keyS S.objs[k]) S.objs[k].zone.toNat).erase ((k : Int) + 1)) s z := by
  by_cases e : s = keyS S.objs[k] ∧ z = S.objs[k].zone.toNat
  · obtain ⟨rfl, rfl⟩ := e
    rw [upd_same]
    exact (h.nodup _ _ ok).not_mem_erase
  · rw [upd_other _ _ e]
    intro hm
    obtain ⟨j, hj, e1, e2, e3⟩ := (h.mem s z ok _).1 hm
    obtain rfl : j = k := by omega
    exact e ⟨e2.symm, e3.symm⟩
theorem moveL_pl {S : StoreL} (h : WfS S) {k zone : Nat} (hk : k < S.objs.length) (h1 : 1 ≤ zone) (h7 : zone ≤ 7) (under : Bool) :
    (moveL S k S.objs[k] zone under).pl = upd (upd S.pl (keyS S.objs[k]) S.objs[k].zone.toNat ((S.pl (keyS S.objs[k]) S.objs[k].zone.toNat).erase ((k : Int) + 1))) (canN S.objs[k].owner.toNat zone) zone
      (insL (upd S.pl (keyS S.objs[k]) S.objs[k].zone.toNat ((S.pl (keyS S.objs[k]) S.objs[k].zone.toNat).erase ((k : Int) + 1)) (canN S.objs[k].owner.toNat zone) zone) (if under then (upd S.pl (keyS S.objs[k]) S.objs[k].zone.toNat ((S.pl (keyS S.objs[k]) S.objs[k].zone.toNat).erase ((k : Int) + 1)) (canN S.objs[k].owner.toNat zone) zone).length else 0) ((k : Int) + 1)) := by
  obtain ⟨_, _, _, i1, i2, _, _⟩ := h.ids k hk
  unfold moveL
  dsimp only
  rw [layL_new _ (h.off hk (canN_ok (by omega) h1 h7))]
theorem WfS.move {S : StoreL} (h : WfS S) {k zone : Nat} (hk : k < S.objs.length) (h1 : 1 ≤ zone) (h7 : zone ≤ 7) (under : Bool) : WfS (moveL S k S.objs[k] zone under) := by
  have hpl := moveL_pl h hk h1 h7 under
  obtain ⟨i0, ic1, ic2, io1, io2, iz1, iz2⟩ := h.ids k hk
  have okt := canN_ok (n := S.seats) (s := S.objs[k].owner.toNat) (by omega) h1 h7
  have okf := key_ok h hk
  have hoff := @WfS.off S h k hk
  have hobj : (moveL S k S.objs[k] zone under).objs = S.objs.set k (freshO S.T ((k : Int) + 1) S.objs[k].card S.objs[k].owner zone) := rfl
  have hkey : keyS (freshO S.T ((k : Int) + 1) S.objs[k].card S.objs[k].owner zone) = canN S.objs[k].owner.toNat zone := by simp [keyS, freshO]
  have hget : ∀ j (hj : j < S.objs.length), j ≠ k → (S.objs.set k (freshO S.T ((k : Int) + 1) S.objs[k].card S.objs[k].owner zone))[j]'(by simpa using hj) = S.objs[j] := fun j hj e => List.getElem_set_ne (Ne.symm e) _
  have hgk : (S.objs.set k (freshO S.T ((k : Int) + 1) S.objs[k].card S.objs[k].owner zone))[k]'(by simpa using hk) = freshO S.T ((k : Int) + 1) S.objs[k].card S.objs[k].owner zone := List.getElem_set_self _
  obtain ⟨P, hP⟩ : ∃ P, upd S.pl (keyS S.objs[k]) S.objs[k].zone.toNat ((S.pl (keyS S.objs[k]) S.objs[k].zone.toNat).erase ((k : Int) + 1)) = P := ⟨_, rfl⟩
  rw [hP] at hpl hoff
  have hPn : ∀ s z, okK S.seats s z → (P s z).Nodup := fun s z ok => by
    rw [← hP]
    by_cases e : s = keyS S.objs[k] ∧ z = S.objs[k].zone.toNat
    · obtain ⟨rfl, rfl⟩ := e
      rw [upd_same]; exact (h.nodup _ _ ok).erase _
    · rw [upd_other _ _ e]; exact h.nodup s z ok
  have hPm : ∀ s z, okK S.seats s z → ∀ id, id ∈ P s z ↔ ∃ j, ∃ hj : j < S.objs.length, j ≠ k ∧ id = (j : Int) + 1 ∧ keyS S.objs[j] = s ∧ S.objs[j].zone.toNat = z := fun s z ok id => by
    have hm := h.mem s z ok id
    rw [← hP]
    have hx : id ∈ upd S.pl (keyS S.objs[k]) S.objs[k].zone.toNat ((S.pl (keyS S.objs[k]) S.objs[k].zone.toNat).erase ((k : Int) + 1)) s z ↔ id ≠ (k : Int) + 1 ∧ id ∈ S.pl s z := by
      by_cases e : s = keyS S.objs[k] ∧ z = S.objs[k].zone.toNat
      · obtain ⟨rfl, rfl⟩ := e
        rw [upd_same]; exact (h.nodup _ _ ok).mem_erase_iff
      · rw [upd_other _ _ e]
        refine ⟨fun h1 => ⟨fun e1 => ?_, h1⟩, fun h1 => h1.2⟩
        obtain ⟨j, hj, e1', e2, e3⟩ := hm.1 h1
        obtain rfl : j = k := by omega
        exact e ⟨e2.symm, e3.symm⟩
    rw [hx, hm]
    constructor
    · rintro ⟨h1, j, hj, e1, e2, e3⟩; exact ⟨j, hj, by omega, e1, e2, e3⟩
    · rintro ⟨j, hj, h1, e1, e2, e3⟩; exact ⟨by omega, j, hj, e1, e2, e3⟩
  refine ⟨fun j hj => ?_, fun s z ok => ?_, fun s z ok id => ?_⟩
  · simp only [hobj] at hj ⊢
    have hj' : j < S.objs.length := by simpa using hj
    by_cases e : j = k
    · subst e
      rw [hgk]
      refine ⟨rfl, ic1, ic2, io1, io2, ?_, ?_⟩ <;> simp only [freshO] <;> omega
    · rw [hget j hj' e]; exact h.ids j hj'
  · rw [hpl]
    by_cases e : s = canN S.objs[k].owner.toNat zone ∧ z = zone
    · obtain ⟨rfl, rfl⟩ := e
      rw [upd_same]
      exact (insL_perm _ _ _).nodup_iff.2 (List.nodup_cons.2 ⟨hoff okt, hPn _ _ okt⟩)
    · rw [upd_other _ _ e]; exact hPn s z ok
  · rw [hpl]
    have hex : (∃ j, ∃ hj : j < (moveL S k S.objs[k] zone under).objs.length, id = (j : Int) + 1 ∧ keyS (moveL S k S.objs[k] zone under).objs[j] = s ∧ (moveL S k S.objs[k] zone under).objs[j].zone.toNat = z) ↔
        (∃ j, ∃ hj : j < S.objs.length, j ≠ k ∧ id = (j : Int) + 1 ∧ keyS S.objs[j] = s ∧ S.objs[j].zone.toNat = z) ∨ (id = (k : Int) + 1 ∧ canN S.objs[k].owner.toNat zone = s ∧ zone = z) := by
      simp only [hobj]
      constructor
      · rintro ⟨j, hj, e1, e2, e3⟩
        have hj' : j < S.objs.length := by simpa using hj
        by_cases e : j = k
        · subst e
          rw [hgk] at e2 e3
          rw [hkey] at e2
          exact .inr ⟨e1, e2, by simpa [freshO] using e3⟩
        · rw [hget j hj' e] at e2 e3
          exact .inl ⟨j, hj', e, e1, e2, e3⟩
      · rintro (⟨j, hj, h1, e1, e2, e3⟩ | ⟨e1, e2, e3⟩)
        · refine ⟨j, by simpa using hj, e1, ?_, ?_⟩
          · rw [hget j hj h1]; exact e2
          · rw [hget j hj h1]; exact e3
        · refine ⟨k, by simpa using hk, e1, ?_, ?_⟩
          · rw [hgk, hkey]; exact e2
          · rw [hgk]; simpa [freshO] using e3
    rw [hex]
    by_cases e : s = canN S.objs[k].owner.toNat zone ∧ z = zone
    · obtain ⟨rfl, rfl⟩ := e
      rw [upd_same, (insL_perm _ _ _).mem_iff, List.mem_cons, hPm _ _ okt]
      simp only [and_true]
      exact or_comm
    · rw [upd_other _ _ e, hPm s z ok]
      constructor
      · exact .inl
      · rintro (h | ⟨_, e2, e3⟩)
        · exact h
        · exact absurd ⟨e2.symm, e3.symm⟩ e
end Go.Proofs.YtgjojjhppgjkkaaGreat
