/- hydralaw13's Board: objects of its table, added one by one, on sides (layer 13). -/
import Derived.Test.YtdlkdilgjmmlaaaDoorRa
import Derived.Test.YtdlkdilgjmmlaaaDoorBj
namespace Go.Proofs.YtdlkdilgjmmlaaaDoor
open Go.RowKit Go.Maps
attribute [local go_sem] Oper.semAt_some

def okTri (t : TriL) : Bool := decide (0 ≤ t.x ∧ t.x < 6 ∧ 0 ≤ t.y ∧ t.y < 4 ∧ 1 ≤ t.z ∧ t.z ≤ 7)
def play13 (l : List TriL) : Prop := l.length ≤ 40 ∧ l.all okTri = true
def step13 (S : StoreL) (t : TriL) : StoreL := addL S t.x.toNat t.y.toNat t.z.toNat
def made13 (l : List TriL) : StoreL := l.foldl step13 ⟨T13, 4, [], fun _ _ => []⟩
theorem made13_snoc (l : List TriL) (x : TriL) : made13 (l ++ [x]) = step13 (made13 l) x := by simp [made13]
structure Made13 (S : StoreL) (l : List TriL) : Prop where
  T : S.T = T13
  seats : S.seats = 4
  len : S.objs.length = l.length
  at' : ∀ k (h : k < S.objs.length) (h' : k < l.length), S.objs[k] = freshO T13 ((k : Int) + 1) l[k].x l[k].y l[k].z
  wf : WfS S
  fn : S = made13 l
theorem made13_none : Made13 ⟨T13, 4, [], fun _ _ => []⟩ [] := ⟨rfl, rfl, rfl, fun k h _ => absurd h (Nat.not_lt_zero k), WfS.none _ _, rfl⟩
theorem Made13.step {S : StoreL} {l : List TriL} (h : Made13 S l) (x : TriL) (hok : okTri x = true) : Made13 (step13 S x) (l ++ [x]) := by
  simp only [okTri, decide_eq_true_eq] at hok
  obtain ⟨h0, h1, h2, h3, h4, h5⟩ := hok
  have hT := h.T
  have hs := h.seats
  refine ⟨h.T, h.seats, ?_, ?_, ?_, ?_⟩
  · show (S.objs ++ [_]).length = _
    rw [List.length_append, List.length_append, h.len]; rfl
  · intro k hk hk'
    have hk0 : k < (S.objs ++ [freshO S.T (S.objs.length + 1) x.x.toNat x.y.toNat x.z.toNat]).length := hk
    have e1 : (step13 S x).objs[k]'hk = (S.objs ++ [freshO S.T (S.objs.length + 1) x.x.toNat x.y.toNat x.z.toNat])[k]'hk0 := rfl
    by_cases hlt : k < l.length
    · have hks : k < S.objs.length := by have := h.len; omega
      have e2 : (S.objs ++ [freshO S.T (S.objs.length + 1) x.x.toNat x.y.toNat x.z.toNat])[k]'hk0 = S.objs[k]'hks := List.getElem_append_left hks
      have e : (l ++ [x])[k]'hk' = l[k] := List.getElem_append_left hlt
      rw [e1, e2, e]
      exact h.at' k hks hlt
    · have hk2 : k = l.length := by rw [List.length_append] at hk'; simp at hk'; omega
      subst hk2
      have e2 : (S.objs ++ [freshO S.T (S.objs.length + 1) x.x.toNat x.y.toNat x.z.toNat])[l.length]'hk0 = freshO S.T (S.objs.length + 1) x.x.toNat x.y.toNat x.z.toNat := by
        rw [List.getElem_append_right (by have := h.len; omega)]
        simp
      have e : (l ++ [x])[l.length]'hk' = x := by rw [List.getElem_append_right (by omega)]; simp
      rw [e1, e2, e, hT, h.len, Int.toNat_of_nonneg h0, Int.toNat_of_nonneg h2, Int.toNat_of_nonneg (by omega : 0 ≤ x.z)]
  · exact h.wf.add (by rw [hT]; show _ < 6; omega) (by rw [hs]; omega) (by omega) (by omega)
  · rw [made13_snoc, ← h.fn]
theorem made13_fold (l : List TriL) (hl : l.all okTri = true) : Made13 (made13 l) l := by
  have h : ∀ k, k ≤ l.length → Made13 (made13 (l.take k)) (l.take k) := fun k => by
    induction k with
    | zero => intro _; rw [List.take_zero]; exact made13_none
    | succ k ih =>
      intro hk
      have hok : okTri l[k] = true := (List.all_eq_true.1 hl) _ (List.getElem_mem (by omega))
      rw [List.take_succ_eq_append_getElem (by omega), made13_snoc]
      exact (ih (by omega)).step _ hok
  have := h l.length (Nat.le_refl _)
  rwa [List.take_length] at this
def board13 (l : List TriL) (n : Nat) : BoardL := ⟨made13 l, sidesT n, dry0⟩
/-- What Board answers. -/
def RetB13 (w : World) (l : List TriL) (n : Nat) (e : Ending) (w' : World) : Prop :=
  (play13 l ∧ ∃ lo g, e = .returned (.pointer (some ⟨g.q, 0, none⟩)) ∧ BoardAt w' lo g (board13 l n) ∧ w.heap.size ≤ lo ∧ Below w.heap.size w w') ∨ (¬play13 l ∧ e = .returned (.pointer none) ∧ Below w.heap.size w w')
theorem TeamAt.stays {w w' : World} {lo b s r : Nat} {T : TeamL} (h : TeamAt w lo b s r T) (hs : w.heap.size ≤ w'.heap.size) (h1 : w'.heap[b]? = w.heap[b]?) (h2 : w'.heap[s]? = w.heap[s]?) (h3 : w'.heap[r]? = w.heap[r]?) : TeamAt w' lo b s r T := by
  obtain ⟨c1, c2, h0⟩ := h.hd
  obtain ⟨cur, hr, ht⟩ := h.rw
  exact ⟨⟨c1, c2, h1.trans h0⟩, ⟨Nat.lt_of_lt_of_le h.sd.1 hs, fun k hkk => (World.cell?_of_block h2).trans (h.sd.2 k hkk)⟩, ⟨cur, h3.trans hr, ht⟩, h.lb, h.ls, h.lr, h.br, h.sr, h.n1, h.n2, h.nd⟩
theorem cards13_form {w : World} {v : Value} (h : Crd.CardsAt w v T13) : ∃ xa xc, v = .slice xa 6 xc := h.form
set_option maxRecDepth 100000 in
set_option maxHeartbeats 8000000 in
theorem board13_any {w : World} {v : Value} {l : List TriL} (hv : TrisAt w v l) (hw : ∀ x ∈ l, Wf x.y ∧ Wf x.z) (hlen : l.length ≤ 9223372036854775807) (n : Nat) (hn : n < 256) :
    Calls Tryd.prog 5 #[v, .int .u8 n] w (RetB13 w l n) := by
  have HV := Lib.hid hv
  have HW := Lib.hid hw
  have HSD := Lib.hid (fun (w' : World) => sides_any hn w')
  have HN4 := Lib.hid (sides_len n)
  obtain ⟨va, vc, rfl⟩ := hv.form
  clear hv hw
  have HTB := Lib.hid (fun (w' : World) => table13_law w')
  by_cases h40 : 40 < l.length
  · have d0 : decide ((40 : Int) < l.length) = true := decide_eq_true (by omega)
    have d0' : decide (40 < l.length) = true := decide_eq_true (by omega)
    have HN := Lib.hid (show ¬play13 l from fun h => by have := h.1; omega)
    go_enter Tryd.func5, Tryd.ntmps5
    go_wp2_with fail
    refine (HTB.out _).mono ?_
    rintro e w1 ⟨tv, rfl, hc, hb1⟩
    have HNW := Lib.hid (newS_ok hc T13_ok 4 (by decide) (by decide))
    obtain ⟨ta, tc, rfl⟩ := cards13_form hc
    have HB1 := Lib.hid hb1
    clear hc hb1
    dsimp only
    go_wp2_with fail
    refine HNW.out.mono ?_
    rintro e w2 ⟨b, G, rfl, hst, hb2⟩
    have HB2 := Lib.hid (stepB HB1.out hb2)
    clear hst hb2 HNW HB1
    dsimp only
    go_wp2_with fail
    refine (HSD.out _).mono ?_
    rintro e w3 ⟨lo2, tb, s, r, rfl, ht2, hlo2, hb3⟩
    have HB3 := Lib.hid (stepB HB2.out hb3)
    clear ht2 hlo2 hb3
    dsimp only
    go_wp2
    go_ret
    exact .inr ⟨HN.out, rfl, HB3.out⟩
  have d0 : decide ((40 : Int) < l.length) = false := decide_eq_false (by omega)
  have d0' : decide (40 < l.length) = false := decide_eq_false (by omega)
  go_enter Tryd.func5, Tryd.ntmps5
  go_wp2_with fail
  refine (HTB.out _).mono ?_
  rintro e w1 ⟨tv, rfl, hc, hb1⟩
  have HNW := Lib.hid (newS_ok hc T13_ok 4 (by decide) (by decide))
  obtain ⟨ta, tc, rfl⟩ := cards13_form hc
  have HB1 := Lib.hid hb1
  clear hc hb1
  dsimp only
  go_wp2_with fail
  refine HNW.out.mono ?_
  rintro e w2 ⟨b, G, rfl, hst, hb2⟩
  have HB2 := Lib.hid (stepB HB1.out hb2)
  have HS2 := Lib.hid hst
  have HL2 := Lib.hid (And.intro HB1.out.size hb2.size)
  obtain ⟨lo, hlo⟩ : ∃ lo, w1.heap.size = lo := ⟨_, rfl⟩
  rw [hlo] at HS2 HL2
  clear hst hb2 hlo HNW HB1
  dsimp only
  go_wp2_with fail
  refine (HSD.out _).mono ?_
  rintro e w3 ⟨lo2, tb, s, r, rfl, ht2, hlo2, hb3⟩
  have HT3 := Lib.hid ht2
  have HB3 := Lib.hid (stepB HB2.out hb3)
  have HS3 := Lib.hid (HS2.out.later hb3)
  have HL3 := Lib.hid (show lo ≤ w3.heap.size from Nat.le_trans HL2.out.2 hb3.size)
  have HTF := Lib.hid (show ∀ q, G.tag q ≠ .no → q < w2.heap.size from fun q hq => Nat.lt_of_not_le fun h => hq (HS2.out.high q h))
  have HTL := Lib.hid hlo2
  clear ht2 hb3 hlo2 HS2 HB2
  dsimp only
  go_wp2
  go_loopw [33] (fun i wr => ∃ (k : Nat) (G : Ghost) (S : StoreL), k ≤ l.length ∧ i = .int .i64 k ∧ Hid (StoreAt wr lo b G S) ∧ Hid (Made13 S (l.take k)) ∧ Hid (Below w.heap.size w wr) ∧ Hid (lo ≤ wr.heap.size) ∧ Hid ((l.take k).all okTri = true) ∧ Hid (TeamAt wr lo2 tb s r (sidesT n) ∧ G.tag tb = .no ∧ G.tag s = .no ∧ G.tag r = .no)) (fun i _ => l.length - (intOf i).toNat)
  case atStart =>
    have hno : ∀ q, lo2 ≤ q → G.tag q = .no := fun q hq => Classical.byContradiction fun h => by have := HTF.out q h; have := HTL.out; omega
    exact ⟨0, G, _, Nat.zero_le _, rfl, HS3, Lib.hid (by rw [List.take_zero]; exact made13_none), HB3, HL3, Lib.hid rfl, Lib.hid ⟨HT3.out, hno _ HT3.out.lb, hno _ HT3.out.ls, hno _ HT3.out.lr⟩⟩
  case round =>
    obtain ⟨k, G3, S3, hk, rfl, H3, HM3, HB3, HL3, HOK, HTT⟩ := hrel
    by_cases hlt : k < l.length
    · obtain ⟨ab, off, rfl, t0, t1, t2⟩ := (HV.out.later HB3.out).at k hlt
      have htk := take_last l k hlt
      have hwx := HW.out l[k] (List.getElem_mem hlt)
      have hall : okTri l[k] = false → l.all okTri = false := Crd.allB_not hlt
      have htl : (l.take k).length = k := by rw [List.length_take]; omega
      obtain ⟨x, hx⟩ : ∃ x, l[k] = x := ⟨_, rfl⟩
      rw [hx] at t0 t1 t2 htk hwx hall
      have HTK := Lib.hid htk
      have HTKL := Lib.hid htl
      clear hx htk htl
      have hb0 := below_new wr (.cells #[.int .i64 x.x, .int .i64 x.y, .int .i64 x.z] 50)
      by_cases hok : okTri x = true
      · have hm4 := HM3.out.step x hok
        have hok2 := hok
        simp only [okTri, decide_eq_true_eq] at hok2
        obtain ⟨x0, x1, x2⟩ := x
        dsimp only at hok2
        obtain ⟨n0, rfl⟩ : ∃ n : Nat, x0 = n := ⟨x0.toNat, by omega⟩
        obtain ⟨ow, rfl⟩ : ∃ n : Nat, x1 = n := ⟨x1.toNat, by omega⟩
        obtain ⟨z, rfl⟩ : ∃ n : Nat, x2 = n := ⟨x2.toNat, by omega⟩
        have hlen3 : S3.objs.length = k := by rw [HM3.out.len]; exact HTKL.out
        have HAD := Lib.hid (add_ok (H3.out.later hb0) (by have := HL3.out; simp; omega) (HM3.out.wf.short (by omega)) n0 ow z (by rw [HM3.out.T]; show n0 < 6; omega) (by rw [HM3.out.seats]; omega) (by omega) (by omega))
        rw [hlen3] at HAD
        have HM4 := Lib.hid (show Made13 (addL S3 n0 ow z) (l.take (k + 1)) by rw [HTK.out]; exact hm4)
        have HBW := Lib.hid (show ∀ q, G3.tag q ≠ .no → w.heap.size ≤ q from fun q hq => Nat.le_trans (by have := HL2.out.1; omega) (H3.out.low q hq))
        have HOK4 := Lib.hid (show (l.take (k + 1)).all okTri = true by rw [HTK.out, List.all_append, HOK.out, Bool.true_and]; simp [hok])
        clear hok hok2 hwx hall hb0 hm4 hlen3
        go_wp2_with fail
        refine HAD.out.mono ?_
        rintro e w4 ⟨rfl, G4, hst4, ht4⟩
        have ht := (Turned.of_below (below_new wr _)).trans ht4
        have HB4 := Lib.hid (ht.below HB3.out HBW.out)
        have HL4 := Lib.hid (Nat.le_trans HL3.out ht.chg.size)
        have H4 := Lib.hid hst4
        have HTT4 := Lib.hid (show TeamAt w4 lo2 tb s r (sidesT n) ∧ G4.tag tb = .no ∧ G4.tag s = .no ∧ G4.tag r = .no from by
          obtain ⟨h1, h2, h3, h4⟩ := HTT.out
          have l2 := h1.sd.1
          exact ⟨h1.stays ht.chg.size (ht.chg.block _ h1.lt (.inl h2)) (ht.chg.block _ l2 (.inl h3)) (ht.chg.block _ h1.ltr (.inl h4)), (ht.tag _ h1.lt).trans h2, (ht.tag _ l2).trans h3, (ht.tag _ h1.ltr).trans h4⟩)
        clear hst4 ht4 ht t0 t1 t2
        dsimp only
        go_wp2
        go_roundw
        case rel => exact ⟨k + 1, G4, _, by omega, by go_num, H4, HM4, HB4, HL4, HOK4, HTT4⟩
        case measure => simp [intOf]; omega
      · have hno : ¬addB S3 x.x x.y x.z := fun h => hok (by
          obtain ⟨h1, h2, h3, h4, h5, h6⟩ := h
          rw [HM3.out.T, show T13.length = 6 from rfl] at h2
          rw [HM3.out.seats] at h4
          exact decide_eq_true ⟨h1, by omega, h3, by omega, h5, h6⟩)
        have HAD := Lib.hid (add_bad (H3.out.later hb0) x.x x.y x.z hwx.1 hwx.2 hno)
        have HNP := Lib.hid (show ¬play13 l from fun h => by have := h.2; rw [hall (by simpa using hok)] at this; cases this)
        clear hwx hno hok hall hb0
        go_wp2_with fail
        refine HAD.out.mono ?_
        rintro e w4 ⟨rfl, hb4⟩
        dsimp only
        go_wp2
        go_ret
        exact .inr ⟨HNP.out, rfl, stepB (below_alloc2 HB3.out _) hb4⟩
    · obtain rfl : k = l.length := by omega
      have hm := HM3.out
      have ho := HOK.out
      rw [List.take_length] at hm ho
      have HP := Lib.hid (show play13 l from ⟨by omega, ho⟩)
      have hnew := bnew_any H3.out hm.wf (by rw [hm.len]; omega) HTT.out.1
      rw [show decide (S3.seats = (sidesT n).sides.length) = true from decide_eq_true (by rw [hm.seats, HN4.out.1])] at hnew
      have HNW := Lib.hid hnew
      have HFN := Lib.hid hm.fn
      clear hm ho hnew
      go_wp2_with fail
      refine HNW.out.mono ?_
      rintro e w5 ⟨hy, _, hb5⟩
      obtain ⟨g, rfl, hg⟩ := hy rfl
      have HG := Lib.hid hg
      have HB5 := Lib.hid (stepB HB3.out hb5)
      have HLO := Lib.hid HB3.out.size
      clear hy hg hb5
      dsimp only
      go_wp2
      go_ret
      refine .inl ⟨HP.out, wr.heap.size, g, rfl, ?_, HLO.out, HB5.out⟩
      unfold board13
      rw [← HFN.out]
      exact HG.out
end Go.Proofs.YtdlkdilgjmmlaaaDoor
