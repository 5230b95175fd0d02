/- The document's example (layer 8): awake. The stores of the laws: made. -/
import Derived.Test.YtbbbkpadadeolaaSd
import Derived.Test.YtbbbkpadadeolaaJm
namespace Go.Proofs.Ytbbbkpadadeolaa
open Go.RowKit Go.Maps

def oneB : List ThingL := [⟨1, 0, 3, false, false⟩]
/-- What happened to the objects of a store leaves what they are. -/
structure LikeS (S : StoreL) (l : List ThingL) : Prop where
  T : S.T = T7
  seats : S.seats = 4
  len : S.objs.length = l.length
  objs : ∀ k (h : k < S.objs.length) (h' : k < l.length), S.objs[k].card = l[k].card ∧ S.objs[k].owner = l[k].owner ∧ S.objs[k].zone = l[k].zone
  wf : WfS S
theorem MadeS.like {S : StoreL} {l : List ThingL} (h : MadeS S l) : LikeS S l := ⟨h.T, h.seats, h.len, fun k hk hk' => by
  have e : ∀ (L : List ObjL) (hL : L = objsT l) (hh : k < L.length), L[k].card = l[k].card ∧ L[k].owner = l[k].owner ∧ L[k].zone = l[k].zone := fun L hL hh => by
    subst hL
    rw [objsT_get l k hk']
    exact ⟨rfl, rfl, rfl⟩
  exact e _ h.objs hk, h.wf⟩
theorem LikeS.set {S : StoreL} {l : List ThingL} (h : LikeS S l) {k : Nat} (hk : k < S.objs.length) {x : ObjL} (h0 : x.id = (k : Int) + 1) (h1 : x.card = S.objs[k].card) (h2 : x.owner = S.objs[k].owner) (h3 : x.zone = S.objs[k].zone) : LikeS (setL S k x) l := by
  refine ⟨h.T, h.seats, ?_, fun j hj hj' => ?_, h.wf.set hk h0 h1 h2 h3⟩
  · show (S.objs.set k x).length = _
    rw [List.length_set]
    exact h.len
  · have hj2 : j < S.objs.length := by rw [h.len]; exact hj'
    have e : ∀ (L : List ObjL) (hL : L = S.objs.set k x) (hh : j < L.length), L[j].card = l[j].card ∧ L[j].owner = l[j].owner ∧ L[j].zone = l[j].zone := fun L hL hh => by
      subst hL
      rw [List.getElem_set]
      split
      · rename_i e
        subst e
        rw [h1, h2, h3]
        exact h.objs k hj2 hj'
      · exact h.objs j hj2 hj'
    exact e _ rfl hj
theorem objOf_one {S : StoreL} {x : ObjL} (ho : S.objs = [x]) : objOf S 1 = x := by
  unfold objOf
  rw [ho]
  rfl
theorem creE_one {S : StoreL} {x : ObjL} (ho : S.objs = [x]) (hT : S.T = T7) (hl : (x.zone == 3 && (T7.getD x.card.toNat zeroC).kind == 2) = true) : creE S 1 = 0 := by
  have hk : hasS S 1 := by
    unfold hasS
    rw [ho]
    exact ⟨by decide, by simp⟩
  unfold creE
  rw [if_pos hk, objOf_one ho]
  unfold liveO cardS
  rw [hT, if_pos hl]
set_option maxRecDepth 100000 in
set_option maxHeartbeats 4000000 in
theorem awake8_any (w : World) : Calls Try.prog 7 #[] w (RetV w (.bool true)) := by
  have HM := Lib.hid (fun (w' : World) (v : Value) (hv : ThingsAt w' v oneB) => made_any hv (by intro x hx; simp [oneB] at hx; subst hx; exact ⟨⟨by decide, by decide⟩, ⟨by decide, by decide⟩⟩) (by decide))
  go_enter Try.func7, Try.ntmps7
  go_wp2_with fail
  refine (HM.out _ _ ?hv).mono ?_
  case hv =>
    refine .inr ⟨w.heap.size, 0, 1, rfl, by simp, fun i hi => ?_⟩
    have hc := fun j => cell_of_row _ w.heap.size j _ _ _ (heap_alloc_new w (.cells #[.int .i64 1, .int .i64 0, .int .i64 3, .bool false, .bool false] 31))
    obtain rfl : i = 0 := by simp [oneB] at hi; omega
    exact ⟨hc 0, hc 1, hc 2, hc 3, hc 4⟩
  rintro e w1 (⟨_, b, lo, G, S, rfl, hs, hm, hlo, _, hb1⟩ | ⟨hn, _, _⟩)
  case inr => exact absurd (show playT oneB from ⟨by decide, by decide⟩) hn
  have hl : S.objs.length ≤ 1000 := by rw [hm.len]; decide
  have hE : creE S 1 = 0 := creE_one (x := ⟨1, 1, 0, 3, false, false, 0, 0, 0, 0, false⟩) (by rw [hm.objs]; rfl) hm.T rfl
  have hc : (countS S 1 1) = setL S 0 ⟨1, 1, 0, 3, false, false, 0, 1, 0, 0, false⟩ := by
    have := countS_at (S := S) (k := 0) 1 hE
    rw [show ((0 : Nat) : Int) + 1 = 1 from rfl] at this
    rw [this]
    unfold countO objOf
    rw [hm.objs]
    rfl
  have hco : (countS S 1 1).objs = [⟨1, 1, 0, 3, false, false, 0, 1, 0, 0, false⟩] := by
    rw [hc]
    show S.objs.set 0 _ = _
    rw [hm.objs]
    rfl
  have hct : (countS S 1 1).T = T7 := by rw [hc]; exact hm.T
  have hE2 : creE (countS S 1 1) 1 = 0 := creE_one hco hct rfl
  have hb : (boostS (countS S 1 1) 1 2) = setL (countS S 1 1) 0 ⟨1, 1, 0, 3, false, false, 0, 1, 2, 0, false⟩ := by
    have := boostS_at (S := countS S 1 1) (k := 0) 2 hE2
    rw [show ((0 : Nat) : Int) + 1 = 1 from rfl] at this
    rw [this]
    unfold boostO objOf
    rw [hco]
    rfl
  have hbo : (boostS (countS S 1 1) 1 2).objs = [⟨1, 1, 0, 3, false, false, 0, 1, 2, 0, false⟩] := by
    rw [hb]
    show (countS S 1 1).objs.set 0 _ = _
    rw [hco]
    rfl
  have hbt : (boostS (countS S 1 1) 1 2).T = T7 := by rw [hb]; exact hct
  have hE3 : creE (boostS (countS S 1 1) 1 2) 1 = 0 := creE_one hbo hbt rfl
  have hp : powS (boostS (countS S 1 1) 1 2) 1 = 5 := by
    unfold powS creO creC
    rw [hE3]
    unfold cardS objOf
    rw [hbt, hbo]
    decide
  have ht : touS (boostS (countS S 1 1) 1 2) 1 = 5 := by
    unfold touS creO creC
    rw [hE3]
    unfold cardS objOf
    rw [hbt, hbo]
    decide
  have HC := Lib.hid (count_any hs hm.wf hl 1 1)
  rw [hE] at HC
  have hw2 := countS_wf hm.wf 1 1
  have hl2 : (countS S 1 1).objs.length ≤ 1000 := by rw [countS_len]; exact hl
  have HB := Lib.hid (fun (W : World) (G' : Ghost) (h' : StoreAt W lo b G' (countS S 1 1)) => boost_any h' hw2 hl2 1 2)
  rw [hE2] at HB
  have hw3 := boostS_wf hw2 1 2
  have hl3 : (boostS (countS S 1 1) 1 2).objs.length ≤ 1000 := by rw [boostS_len]; exact hl2
  have HP := Lib.hid (fun (W : World) (G' : Ghost) (h' : StoreAt W lo b G' (boostS (countS S 1 1) 1 2)) => power_any h' hw3 hl3 1)
  have HT := Lib.hid (fun (W : World) (G' : Ghost) (h' : StoreAt W lo b G' (boostS (countS S 1 1) 1 2)) => tough_any h' hw3 hl3 1)
  have HL := Lib.hid (fun (W : World) (G' : Ghost) (h' : StoreAt W lo b G' (boostS (countS S 1 1) 1 2)) => live_any h' hw3 hl3 1)
  rw [hp] at HP
  rw [ht] at HT
  rw [hE3] at HL
  obtain ⟨S3, hS3⟩ : ∃ S3, boostS (countS S 1 1) 1 2 = S3 := ⟨_, rfl⟩
  rw [hS3] at HB HP HT HL
  obtain ⟨S2, hS2⟩ : ∃ S2, countS S 1 1 = S2 := ⟨_, rfl⟩
  rw [hS2] at HC HB
  have HB1 := Lib.hid (stepB (below_new w _) hb1)
  have HLO := Lib.hid (show ∀ k, G.tag k ≠ .no → w.heap.size ≤ k from fun k hk => Nat.le_trans (Nat.le_trans (by simp) hlo) (hs.low k hk))
  clear hs hm hlo hb1 hl hE hc hco hct hE2 hb hbo hbt hE3 hp ht HM hw2 hl2 hw3 hl3 hS3 hS2
  dsimp only
  go_wp2_with fail
  refine HC.out.mono ?_
  rintro e w2 ⟨rfl, G2, hs2, ht2⟩
  have HS2 := Lib.hid hs2
  have HT2 := Lib.hid ht2
  clear hs2 ht2
  dsimp only
  go_wp2_with fail
  refine (HB.out _ _ HS2.out).mono ?_
  rintro e w3 ⟨rfl, G3, hs3, ht3⟩
  have HS3 := Lib.hid hs3
  have HB3 := Lib.hid ((HT2.out.trans ht3).below HB1.out HLO.out)
  clear hs3 ht3
  dsimp only
  go_wp2_with fail
  refine (HP.out _ _ HS3.out).mono ?_
  rintro e w4 ⟨rfl, hb4⟩
  have HB4 := Lib.hid hb4
  clear hb4
  dsimp only
  go_wp2_with fail
  refine (HT.out _ _ (HS3.out.later HB4.out)).mono ?_
  rintro e w5 ⟨rfl, hb5⟩
  have HB5 := Lib.hid (stepB HB4.out hb5)
  clear hb5
  dsimp only
  go_wp2_with fail
  refine (HL.out _ _ (HS3.out.later HB5.out)).mono ?_
  rintro e w6 ⟨rfl, hb6⟩
  have HB6 := Lib.hid (stepB HB3.out (stepB HB5.out hb6))
  clear hb6
  dsimp only
  go_wp2
  go_ret
  exact ⟨ret_bool (by simp), HB6.out⟩
/-! Sets, as they are handed in. -/
structure SetL where
  hurt : Int
  count : Int
  boost : Int
def SetCells (w : World) (b o : Nat) (x : SetL) : Prop := w.cell? ⟨b, o, none⟩ = some (.int .i64 x.hurt) ∧ w.cell? ⟨b, o + 1, none⟩ = some (.int .i64 x.count) ∧ w.cell? ⟨b, o + 2, none⟩ = some (.int .i64 x.boost)
def SetsAt (w : World) (v : Value) (l : List SetL) : Prop :=
  (∃ xa cap, v = .slice xa 0 cap ∧ l = []) ∨ ∃ b off cap, v = .slice (some ⟨b, off, none⟩) l.length cap ∧ b < w.heap.size ∧ ∀ i (h : i < l.length), SetCells w b (off + i * 3) l[i]
theorem SetCells.later {w w' : World} {b o : Nat} {x : SetL} (h : SetCells w b o x) (hb : Below w.heap.size w w') : SetCells w' b o x := by
  obtain ⟨c0, c1, c2⟩ := h
  exact ⟨cell_stays hb c0, cell_stays hb c1, cell_stays hb c2⟩
theorem SetsAt.later {w w' : World} {v : Value} {l : List SetL} (h : SetsAt w v l) (hb : Below w.heap.size w w') : SetsAt w' v l := by
  rcases h with h | ⟨b, off, cap, rfl, hlt, hc⟩
  · exact .inl h
  · exact .inr ⟨b, off, cap, rfl, Nat.lt_of_lt_of_le hlt hb.size, fun i hi => (hc i hi).later hb⟩
theorem SetsAt.form {w : World} {v : Value} {l : List SetL} (h : SetsAt w v l) : ∃ xa xc, v = .slice xa l.length xc := by
  rcases h with ⟨xa, cap, rfl, rfl⟩ | ⟨b, off, cap, rfl, _⟩
  · exact ⟨xa, cap, rfl⟩
  · exact ⟨_, cap, rfl⟩
theorem SetsAt.at {w : World} {xa : Option Addr} {xc : Nat} {l : List SetL} (h : SetsAt w (.slice xa l.length xc) l) (k : Nat) (hk : k < l.length) : ∃ b off, xa = some ⟨b, off, none⟩ ∧ SetCells w b (off + k * 3) l[k] := by
  rcases h with ⟨_, _, _, h2⟩ | ⟨b, off, cap, h1, _, hc⟩
  · subst h2; simp at hk
  · injection h1 with h1 _ _; exact ⟨b, off, h1, hc k hk⟩
def playB (l : List ThingL) (s : List SetL) : Prop := playT l ∧ s.length ≤ 60
def RetMade8 (w : World) (l : List ThingL) (s : List SetL) (e : Ending) (w' : World) : Prop :=
  (playB l s ∧ ∃ b lo G S, e = .returned (.pointer (some ⟨b, 0, none⟩)) ∧ StoreAt w' lo b G S ∧ LikeS S l ∧ (s = [] → MadeS S l) ∧ w.heap.size ≤ lo ∧ lo ≤ w'.heap.size ∧ Below w.heap.size w w') ∨ (¬playB l s ∧ e = .returned (.pointer none) ∧ Below w.heap.size w w')
set_option maxRecDepth 100000 in
set_option maxHeartbeats 4000000 in
theorem made8_any {w : World} {v u : Value} {l : List ThingL} {s : List SetL} (hv : ThingsAt w v l) (hw : ∀ x ∈ l, Wf x.owner ∧ Wf x.zone) (hlen : l.length ≤ 9223372036854775807) (hu : SetsAt w u s) (hls : s.length ≤ 9223372036854775807) :
    Calls Try.prog 8 #[v, u] w (RetMade8 w l s) := by
  have HM := Lib.hid (made_any hv hw hlen)
  have HU := Lib.hid hu
  obtain ⟨va, vc, rfl⟩ := hv.form
  obtain ⟨ua, uc, rfl⟩ := hu.form
  clear hv hw hu
  go_enter Try.func8, Try.ntmps8
  go_wp2_with fail
  refine HM.out.mono ?_
  rintro e w1 (⟨hp, b, lo, G, S, rfl, hs, hm, hlo, hlo2, hb1⟩ | ⟨hn, rfl, hb1⟩)
  case inr =>
    dsimp only
    go_wp2
    go_ret
    exact .inr ⟨fun h => hn h.1, rfl, hb1⟩
  dsimp only
  by_cases h60 : 60 < s.length
  · have d0 : decide ((60 : Int) < s.length) = true := decide_eq_true (by omega)
    have HN := Lib.hid (show ¬playB l s from fun h => by have := h.2; omega)
    clear hs hm hp h60
    go_wp2
    go_ret
    exact .inr ⟨HN.out, rfl, hb1⟩
  have d0 : decide ((60 : Int) < s.length) = false := decide_eq_false (by omega)
  have HP := Lib.hid (show playB l s from ⟨hp, by omega⟩)
  have HS1 := Lib.hid hs
  have HK1 := Lib.hid hm.like
  have HM1 := Lib.hid hm
  have HB1 := Lib.hid hb1
  have HL1 := Lib.hid hlo2
  have HW1 := Lib.hid hlo
  have HO := Lib.hid (show S.objs.length ≤ 1000 by rw [hm.len]; have := hp.1; omega)
  have HLW := Lib.hid (show ∀ q, G.tag q ≠ .no → w.heap.size ≤ q from fun q hq => Nat.le_trans hlo (hs.low q hq))
  clear hs hm hp hb1 hlo hlo2 HM
  go_wp2
  go_loopw [21] (fun i wr => ∃ (k : Nat) (G : Ghost) (S : StoreL), k ≤ s.length ∧ i = .int .i64 k ∧ Hid (StoreAt wr lo b G S) ∧ Hid (LikeS S l) ∧ Hid (k = 0 → MadeS S l) ∧ Hid (Below w.heap.size w wr) ∧ Hid (lo ≤ wr.heap.size) ∧ Hid (S.objs.length ≤ 1000)) (fun i _ => s.length - (intOf i).toNat)
  case atStart => exact ⟨0, G, S, Nat.zero_le _, rfl, HS1, HK1, Lib.hid (fun _ => HM1.out), HB1, HL1, HO⟩
  case round =>
    obtain ⟨k, G3, S3, hk, rfl, H3, HK3, HM3, HB3, HL3, HO3⟩ := hrel
    by_cases hlt : k < s.length
    · obtain ⟨tb, off, rfl, t0, t1, t2⟩ := (HU.out.later HB3.out).at k hlt
      obtain ⟨x, hx⟩ : ∃ x, s[k] = x := ⟨_, rfl⟩
      rw [hx] at t0 t1 t2
      obtain ⟨h0, h1, h2⟩ := x
      dsimp only at t0 t1 t2
      clear hx
      have hb0 := below_new wr (.cells #[.int .i64 h0, .int .i64 h1, .int .i64 h2] 64)
      have HT0 := Lib.hid (show ∀ j, (wr.alloc (.cells #[.int .i64 h0, .int .i64 h1, .int .i64 h2] 64)).cell? ⟨wr.heap.size, j, none⟩ = (#[.int .i64 h0, .int .i64 h1, .int .i64 h2] : Array Value)[j]? from fun j => cell_of_row _ _ j _ _ _ (heap_alloc_new wr _))
      have HBW := Lib.hid (show ∀ q, G3.tag q ≠ .no → w.heap.size ≤ q from fun q hq => Nat.le_trans HW1.out (H3.out.low q hq))
      by_cases hin : k < S3.objs.length
      · have HG := Lib.hid (get_in (H3.out.later hb0) HO3.out k hin)
        have hid := (HK3.out.wf.ids k hin).1
        obtain ⟨y, hy⟩ : ∃ y, S3.objs[k] = y := ⟨_, rfl⟩
        have HSE := Lib.hid (fun (W' : World) (hb : Below wr.heap.size wr W') (z : ObjL) (h0 : z.id = (k : Int) + 1) (h1 : z.card = y.card) (h2 : z.owner = y.owner) (h3 : z.zone = y.zone) => set_any (H3.out.later hb) HO3.out k hin z h0 (h1.trans (by rw [hy])) (h2.trans (by rw [hy])) (h3.trans (by rw [hy])))
        have HLK := Lib.hid (fun (z : ObjL) (h0 : z.id = (k : Int) + 1) (h1 : z.card = y.card) (h2 : z.owner = y.owner) (h3 : z.zone = y.zone) => HK3.out.set hin h0 (h1.trans (by rw [hy])) (h2.trans (by rw [hy])) (h3.trans (by rw [hy])))
        rw [hy] at HG hid
        obtain ⟨y0, y1, y2, y3, y4, y5, y6, y7, y8, y9, y10⟩ := y
        dsimp only at hid
        subst hid
        unfold RetGet oagg at HG
        unfold oagg at HSE
        dsimp only at HG HSE HLK
        clear hy hin
        go_wp2_with fail
        refine HG.out.mono ?_
        rintro e w4 ⟨rfl, hb4⟩
        have HB4 := Lib.hid (stepB hb0 hb4)
        have q0 := cell_stays (stepB hb4 (below_new w4 (.cells #[.int .i64 ((k : Int) + 1), .int .i64 y1, .int .i64 y2, .int .i64 y3, .bool y4, .bool y5, .int .i64 y6, .int .i64 y7, .int .i64 y8, .int .i64 y9, .bool y10] 36))) (HT0.out 0)
        have q1 := cell_stays (stepB hb4 (below_new w4 (.cells #[.int .i64 ((k : Int) + 1), .int .i64 y1, .int .i64 y2, .int .i64 y3, .bool y4, .bool y5, .int .i64 y6, .int .i64 y7, .int .i64 y8, .int .i64 y9, .bool y10] 36))) (HT0.out 1)
        have q2 := cell_stays (stepB hb4 (below_new w4 (.cells #[.int .i64 ((k : Int) + 1), .int .i64 y1, .int .i64 y2, .int .i64 y3, .bool y4, .bool y5, .int .i64 y6, .int .i64 y7, .int .i64 y8, .int .i64 y9, .bool y10] 36))) (HT0.out 2)
        have q3 := cell_stays (stepB hb4 (below_new w4 (.cells #[.int .i64 ((k : Int) + 1), .int .i64 y1, .int .i64 y2, .int .i64 y3, .bool y4, .bool y5, .int .i64 y6, .int .i64 y7, .int .i64 h2, .int .i64 y9, .bool y10] 36))) (HT0.out 0)
        have q4 := cell_stays (stepB hb4 (below_new w4 (.cells #[.int .i64 ((k : Int) + 1), .int .i64 y1, .int .i64 y2, .int .i64 y3, .bool y4, .bool y5, .int .i64 y6, .int .i64 y7, .int .i64 h2, .int .i64 y9, .bool y10] 36))) (HT0.out 1)
        have q5 := cell_stays (stepB hb4 (below_new w4 (.cells #[.int .i64 ((k : Int) + 1), .int .i64 y1, .int .i64 y2, .int .i64 y3, .bool y4, .bool y5, .int .i64 y6, .int .i64 h1, .int .i64 y8, .int .i64 y9, .bool y10] 36))) (HT0.out 0)
        have q6 := cell_stays (stepB hb4 (below_new w4 (.cells #[.int .i64 ((k : Int) + 1), .int .i64 y1, .int .i64 y2, .int .i64 y3, .bool y4, .bool y5, .int .i64 y6, .int .i64 h1, .int .i64 y8, .int .i64 y9, .bool y10] 36))) (HT0.out 2)
        have q7 := cell_stays (stepB hb4 (below_new w4 (.cells #[.int .i64 ((k : Int) + 1), .int .i64 y1, .int .i64 y2, .int .i64 y3, .bool y4, .bool y5, .int .i64 y6, .int .i64 h1, .int .i64 h2, .int .i64 y9, .bool y10] 36))) (HT0.out 0)
        have q8 := cell_stays (stepB hb4 (below_new w4 (.cells #[.int .i64 ((k : Int) + 1), .int .i64 y1, .int .i64 y2, .int .i64 y3, .bool y4, .bool y5, .int .i64 h0, .int .i64 y7, .int .i64 y8, .int .i64 y9, .bool y10] 36))) (HT0.out 1)
        have q9 := cell_stays (stepB hb4 (below_new w4 (.cells #[.int .i64 ((k : Int) + 1), .int .i64 y1, .int .i64 y2, .int .i64 y3, .bool y4, .bool y5, .int .i64 h0, .int .i64 y7, .int .i64 y8, .int .i64 y9, .bool y10] 36))) (HT0.out 2)
        have q10 := cell_stays (stepB hb4 (below_new w4 (.cells #[.int .i64 ((k : Int) + 1), .int .i64 y1, .int .i64 y2, .int .i64 y3, .bool y4, .bool y5, .int .i64 h0, .int .i64 y7, .int .i64 h2, .int .i64 y9, .bool y10] 36))) (HT0.out 1)
        have q11 := cell_stays (stepB hb4 (below_new w4 (.cells #[.int .i64 ((k : Int) + 1), .int .i64 y1, .int .i64 y2, .int .i64 y3, .bool y4, .bool y5, .int .i64 h0, .int .i64 h1, .int .i64 y8, .int .i64 y9, .bool y10] 36))) (HT0.out 2)
        have NE := Lib.hid (show ¬ wr.heap.size = w4.heap.size by have := hb4.size; simp at this; omega)
        have n1 := NE.out
        have n2 := fun e => NE.out (Eq.symm e)
        clear hb4 hb0 t0 t1 t2 HG HT0
        dsimp only
        go_wp2
        go_region
        all_goals
          go_wp2_with fail
          refine (HSE.out _ (stepB HB4.out (below_new w4 _)).drew ⟨(k : Int) + 1, y1, y2, y3, y4, y5, h0, h1, h2, y9, y10⟩ rfl rfl rfl rfl).mono ?_
          rintro e w6 ⟨rfl, G6, hs6, ht6⟩
          have HT6 := Lib.hid ((Turned.of_below (G := G3) (stepB HB4.out (below_new w4 _)).drew).trans ht6)
          have HB6 := Lib.hid (HT6.out.below HB3.out HBW.out)
          have H6 := Lib.hid hs6
          have HL6 := Lib.hid (Nat.le_trans HL3.out HT6.out.chg.size)
          have HK6 := Lib.hid (HLK.out ⟨(k : Int) + 1, y1, y2, y3, y4, y5, h0, h1, h2, y9, y10⟩ rfl rfl rfl rfl)
          have HO6 := Lib.hid (show (setL S3 k ⟨(k : Int) + 1, y1, y2, y3, y4, y5, h0, h1, h2, y9, y10⟩).objs.length ≤ 1000 by show (S3.objs.set k _).length ≤ 1000; rw [List.length_set]; exact HO3.out)
          clear hs6 ht6
          dsimp only
          go_wp2
          go_roundw
          case rel => exact ⟨k + 1, G6, _, by omega, by go_num, H6, HK6, Lib.hid (fun e => by omega), HB6, HL6, HO6⟩
          case measure => simp [intOf]; omega
      · have HG := Lib.hid (get_out (H3.out.later hb0) HO3.out ((k : Int) + 1) (.inr (by omega)))
        unfold RetGet oagg zeroO at HG
        dsimp only at HG
        clear hin
        go_wp2_with fail
        refine HG.out.mono ?_
        rintro e w4 ⟨rfl, hb4⟩
        have HB4 := Lib.hid (below_alloc2 (stepB hb0 hb4) (.cells #[.int .i64 0, .int .i64 0, .int .i64 0, .int .i64 0, .bool false, .bool false, .int .i64 0, .int .i64 0, .int .i64 0, .int .i64 0, .bool false] 36))
        clear hb4 hb0 t0 t1 t2 HG HT0
        dsimp only
        go_wp2
        go_roundw
        case rel => exact ⟨k + 1, G3, S3, by omega, by go_num, Lib.hid (H3.out.later HB4.out), HK3, Lib.hid (fun e => by omega), Lib.hid (stepB HB3.out HB4.out), Lib.hid (Nat.le_trans HL3.out HB4.out.size), HO3⟩
        case measure => simp [intOf]; omega
    · obtain rfl : k = s.length := by omega
      go_wp2
      go_ret
      refine .inl ⟨HP.out, b, lo, G3, S3, rfl, H3.out, HK3.out, fun e => HM3.out (by rw [e]; rfl), HW1.out, HL3.out, HB3.out⟩
end Go.Proofs.Ytbbbkpadadeolaa
