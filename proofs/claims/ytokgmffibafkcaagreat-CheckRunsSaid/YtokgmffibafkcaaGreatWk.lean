/- The law CheckRuns, walked. -/
import Derived.Test.YtokgmffibafkcaaGreatWl
import Derived.Deep.Cut
import Derived.Deep.DeepCutAuto
namespace Go.Proofs.YtokgmffibafkcaaGreat
open Go.RowKit Go.Maps
attribute [local go_sem] Oper.semAt_some

theorem RetB14.yes {w : World} {l : List TriL} {n : Nat} {x : StL} {e : Ending} {w' : World} (hp : play14 l x) (h : RetB14 w l n x e w') : ∃ lo g, e = .returned (.pointer (some ⟨g.q, 0, none⟩)) ∧ BoardAt w' lo g (board14 l n x) ∧ w.heap.size ≤ lo ∧ Below w.heap.size w w' := by
  rcases h with ⟨_, h⟩ | ⟨h, _⟩
  · exact h
  · exact absurd hp h
theorem RetB14.no {w : World} {l : List TriL} {n : Nat} {x : StL} {e : Ending} {w' : World} (hp : ¬play14 l x) (h : RetB14 w l n x e w') : RetV w (.pointer none) e w' := by
  rcases h with ⟨h, _⟩ | ⟨_, h⟩
  · exact absurd h hp
  · exact h
def cellsR (q4 q5 : Nat) (a : Int) (u0 u1 u2 u3 : Value) (d : Int) (w' : World) : Prop := w'.cell? ⟨q4, 0, none⟩ = some (.int .i64 a) ∧ w'.cell? ⟨q5, 0, none⟩ = some u0 ∧ w'.cell? ⟨q5, 1, none⟩ = some u1 ∧ w'.cell? ⟨q5, 2, none⟩ = some u2 ∧ w'.cell? ⟨q5, 3, none⟩ = some u3 ∧ w'.cell? ⟨q5, 4, none⟩ = some (.int .i64 d)
theorem keepR1 {A w w' : World} {q4 q5 : Nat} {a d : Int} {u0 u1 u2 u3 : Value} (hb : Below w.heap.size w w') (h : Below A.heap.size A w ∧ w.cell? ⟨q4, 0, none⟩ = some (.int .i64 a) ∧ w.cell? ⟨q5, 0, none⟩ = some u0 ∧ w.cell? ⟨q5, 1, none⟩ = some u1 ∧ w.cell? ⟨q5, 2, none⟩ = some u2 ∧ w.cell? ⟨q5, 3, none⟩ = some u3 ∧ w.cell? ⟨q5, 4, none⟩ = some (.int .i64 d)) :
    Below A.heap.size A w' ∧ w'.cell? ⟨q4, 0, none⟩ = some (.int .i64 a) ∧ w'.cell? ⟨q5, 0, none⟩ = some u0 ∧ w'.cell? ⟨q5, 1, none⟩ = some u1 ∧ w'.cell? ⟨q5, 2, none⟩ = some u2 ∧ w'.cell? ⟨q5, 3, none⟩ = some u3 ∧ w'.cell? ⟨q5, 4, none⟩ = some (.int .i64 d) := by
  obtain ⟨h0, h1, h2, h3, h4, h5, h6⟩ := h
  exact ⟨stepB h0 hb, cell_stays hb h1, cell_stays hb h2, cell_stays hb h3, cell_stays hb h4, cell_stays hb h5, cell_stays hb h6⟩
set_option maxRecDepth 100000 in
set_option maxHeartbeats 400000000 in
theorem checkRuns_walk (a b : Int) {w : World} {v u : Value} {l : List TriL} {x : StL} (hv : TrisAt w v l) (hw : ∀ x ∈ l, Wf x.y ∧ Wf x.z) (hlen : l.length ≤ 9223372036854775807) (hu : StAt w u x) :
    Calls Tryz.prog 3 #[v, .agg #[.int .i64 a, .int .i64 b], u] w (RetV w (.bool true)) := by
  have HAW := Lib.hid (fun (w' : World) => awake14_any w')
  have HNK := Lib.hid (fun (w' : World) => new_stk (w := w') (v := .slice none 0 0) (l := []) (.inl ⟨none, 0, rfl, rfl⟩) (by decide))
  obtain ⟨s, hs4, hse⟩ := and3 a
  have hs8 : IntKind.u8.wrap (s : Int) = (s : Int) := by simp [IntKind.wrap, IntKind.signed, IntKind.bits]; omega
  have HBO := Lib.hid (fun (w' : World) (hb : Below w.heap.size w w') => board14_any (hv.later hb) hw hlen s (by omega) (hu.later hb))
  obtain ⟨u0, u1, u2, u3, rfl, i0, i1, i2, i3⟩ := hu
  obtain ⟨y0, z0, rfl⟩ := i0.form
  obtain ⟨y1, z1, rfl⟩ := i1.form
  obtain ⟨y2, z2, rfl⟩ := i2.form
  obtain ⟨y3, z3, rfl⟩ := i3.form
  obtain ⟨va, vc, rfl⟩ := hv.form
  have hb0 := below_alloc2 (below_new w (.cells #[.int .i64 a, .int .i64 b] 23)) (.cells #[.slice y0 x.hu.length z0, .slice y1 x.co.length z1, .slice y2 x.ga.length z2, .slice y3 x.po.length z3, .int .i64 x.dry] 26)
  have hri : ((w.alloc (.cells #[.int .i64 a, .int .i64 b] 23)).alloc (.cells #[.slice y0 x.hu.length z0, .slice y1 x.co.length z1, .slice y2 x.ga.length z2, .slice y3 x.po.length z3, .int .i64 x.dry] 26)).heap[w.heap.size]? = some (.cells #[.int .i64 a, .int .i64 b] 23 (0, 0)) := ((below_new (w.alloc (.cells #[.int .i64 a, .int .i64 b] 23)) (.cells #[.slice y0 x.hu.length z0, .slice y1 x.co.length z1, .slice y2 x.ga.length z2, .slice y3 x.po.length z3, .int .i64 x.dry] 26)).block _ (by simp)).trans (heap_alloc_new w (.cells #[.int .i64 a, .int .i64 b] 23))
  have hrs : ((w.alloc (.cells #[.int .i64 a, .int .i64 b] 23)).alloc (.cells #[.slice y0 x.hu.length z0, .slice y1 x.co.length z1, .slice y2 x.ga.length z2, .slice y3 x.po.length z3, .int .i64 x.dry] 26)).heap[w.heap.size + 1]? = some (.cells #[.slice y0 x.hu.length z0, .slice y1 x.co.length z1, .slice y2 x.ga.length z2, .slice y3 x.po.length z3, .int .i64 x.dry] 26 (0, 0)) := heap_two _ _ _
  obtain ⟨W, hW⟩ : ∃ W, (w.alloc (.cells #[.int .i64 a, .int .i64 b] 23)).alloc (.cells #[.slice y0 x.hu.length z0, .slice y1 x.co.length z1, .slice y2 x.ga.length z2, .slice y3 x.po.length z3, .int .i64 x.dry] 26) = W := ⟨_, rfl⟩
  obtain ⟨q4, hq4⟩ : ∃ q4, w.heap.size = q4 := ⟨_, rfl⟩
  obtain ⟨q5, hq5⟩ : ∃ q5, w.heap.size + 1 = q5 := ⟨_, rfl⟩
  rw [hW] at hb0 hri hrs
  rw [hq5] at hrs
  rw [hq4] at hri
  have HB0 := Lib.hid hb0
  have HW := Lib.hid hW
  have HQ4 := Lib.hid hq4
  have HQ5 := Lib.hid hq5
  have HIX := Lib.hid (show ∀ w' : World, Below W.heap.size W w' → w'.cell? ⟨q4, 0, none⟩ = some (.int .i64 a) ∧ w'.cell? ⟨q4, 1, none⟩ = some (.int .i64 b) ∧ w'.cell? ⟨q5, 0, none⟩ = some (.slice y0 x.hu.length z0) ∧ w'.cell? ⟨q5, 1, none⟩ = some (.slice y1 x.co.length z1) ∧ w'.cell? ⟨q5, 2, none⟩ = some (.slice y2 x.ga.length z2) ∧ w'.cell? ⟨q5, 3, none⟩ = some (.slice y3 x.po.length z3) ∧ w'.cell? ⟨q5, 4, none⟩ = some (.int .i64 x.dry) from fun w' hb => by
    have h1 := (hb.block _ (Array.getElem?_eq_some_iff.1 hri).1).trans hri
    have h2 := (hb.block _ (Array.getElem?_eq_some_iff.1 hrs).1).trans hrs
    exact ⟨cell_of_row w' q4 0 _ _ (0, 0) h1, cell_of_row w' q4 1 _ _ (0, 0) h1, cell_of_row w' q5 0 _ _ (0, 0) h2, cell_of_row w' q5 1 _ _ (0, 0) h2, cell_of_row w' q5 2 _ _ (0, 0) h2, cell_of_row w' q5 3 _ _ (0, 0) h2, cell_of_row w' q5 4 _ _ (0, 0) h2⟩)
  clear hv hw hlen i0 i1 i2 i3 hb0 hri hrs hW hq4 hq5
  go_enter Tryz.func3, Tryz.ntmps3
  go_upto_region 1 with fail
  rw [HW.out]
  try simp only [World.size_alloc]
  rw [HQ5.out, HQ4.out]
  go_wp2_with fail
  refine (HAW.out _).mono ?_
  rintro e w1 ⟨rfl, hb1⟩
  have HB1 := Lib.hid hb1
  obtain ⟨c0, c1, c2, c3, c4, c5, c6⟩ := HIX.out w1 HB1.out
  clear hb1 HAW
  dsimp only
  have HC1 := Lib.hid (And.intro HB1.out (And.intro c0 (And.intro c2 (And.intro c3 (And.intro c4 (And.intro c5 c6))))))
  clear c0 c1 c2 c3 c4 c5 c6
  by_cases hp : play14 l x
  case neg =>
    go_upto_region 3 with fail
    go_region_held3 (fun w' => Below W.heap.size W w' ∧ w'.cell? ⟨q4, 0, none⟩ = some (.int .i64 a) ∧ w'.cell? ⟨q5, 0, none⟩ = some (.slice y0 x.hu.length z0) ∧ w'.cell? ⟨q5, 1, none⟩ = some (.slice y1 x.co.length z1) ∧ w'.cell? ⟨q5, 2, none⟩ = some (.slice y2 x.ga.length z2) ∧ w'.cell? ⟨q5, 3, none⟩ = some (.slice y3 x.po.length z3) ∧ w'.cell? ⟨q5, 4, none⟩ = some (.int .i64 x.dry))
      (first | assumption | (with_reducible exact HC1.out) | exact keepR1 ((Below.refl _ _).drew) HC1.out | exact keepR1 (by assumption) (by assumption))
      ((go_at_call 8; refine ((HBO.out _ (stepB HB0.out (And.left (by assumption)))).mono fun _ _ h => RetB14.no hp h).mono ?_; rintro e w4 ⟨rfl, hb4⟩))
    have HB4 := Lib.hid (stepB HB0.out (And.left (show Below W.heap.size W w4 ∧ _ from by assumption)))
    go_wp2
    go_ret
    exact ⟨rfl, HB4.out⟩
  have tok : True := trivial
  go_upto_region 3 with fail
  go_region_held3 (fun w' => Below W.heap.size W w' ∧ w'.cell? ⟨q4, 0, none⟩ = some (.int .i64 a) ∧ w'.cell? ⟨q5, 0, none⟩ = some (.slice y0 x.hu.length z0) ∧ w'.cell? ⟨q5, 1, none⟩ = some (.slice y1 x.co.length z1) ∧ w'.cell? ⟨q5, 2, none⟩ = some (.slice y2 x.ga.length z2) ∧ w'.cell? ⟨q5, 3, none⟩ = some (.slice y3 x.po.length z3) ∧ w'.cell? ⟨q5, 4, none⟩ = some (.int .i64 x.dry))
    (first | assumption | (with_reducible exact HC1.out) | exact keepR1 ((Below.refl _ _).drew) HC1.out | exact keepR1 (by assumption) (by assumption))
    ((go_at_call 8; refine ((HBO.out _ (stepB HB0.out (And.left (by assumption)))).mono fun _ _ h => RetB14.yes hp h).mono ?_; first
      | (clear tok; rintro e w2 ⟨la, ga, rfl, hba, hla, hb2⟩)
      | (rintro e w3 ⟨lb, gb, rfl, hbb, hlb, hb3⟩)))
  have hln : (board14 l s x).S.objs.length ≤ 800 := by rw [b14_len hp.1.2]; have := hp.1.1; omega
  have hse : (board14 l s x).S.seats = 4 := b14_seats hp.1.2 s x
  obtain ⟨B, hB⟩ : ∃ B, board14 l s x = B := ⟨_, rfl⟩
  rw [hB] at hba hbb hln hse
  have HLN := Lib.hid (And.intro hln hse)
  have HB3 := Lib.hid (And.left (show Below W.heap.size W w3 ∧ _ from by assumption))
  have HZ2 := Lib.hid (show W.heap.size ≤ w2.heap.size from Nat.le_trans HB1.out.size (by have := hb2.size; simpa using this))
  have HOW := Lib.hid (show ∀ k, ga.own k → W.heap.size ≤ k ∧ k < w2.heap.size from fun k hk => ⟨Nat.le_trans HB1.out.size (Nat.le_trans (by simpa using hla) (hba.ownLo hk)), hba.ownLt hk⟩)
  have HOC := Lib.hid (show ∀ k, gb.own k → w2.heap.size ≤ k ∧ k < w3.heap.size from fun k hk => ⟨Nat.le_trans hlb (hbb.ownLo hk), hbb.ownLt hk⟩)
  have HBA := Lib.hid (hba.later hb3)
  have HBB := Lib.hid hbb
  have HZ3 := Lib.hid hb3.size
  obtain ⟨qa, hqa⟩ : ∃ qa, ga.q = qa := ⟨_, rfl⟩
  obtain ⟨qb, hqb⟩ : ∃ qb, gb.q = qb := ⟨_, rfl⟩
  have HQA := Lib.hid hqa
  have HQB := Lib.hid hqb
  rw [hqa, hqb]
  clear hba hbb hla hlb hb2 hb3 hln hB hqa hqb HBO hp hse
  go_wp2_with fail
  refine (HNK.out w3).mono ?_
  rintro e w4 ⟨b1, k1, rfl, hs1, hb4⟩
  rw [show List.take 8 ([] : List EntL) = [] from rfl] at hs1
  have HP1a := Lib.hid (both_new HBA.out hb4 hs1)
  have HO1 := Lib.hid (show ∀ k, ownK b1 k1 k → w3.heap.size ≤ k ∧ k < w4.heap.size from fun k hk => ⟨hs1.ownLo hk, hs1.ownLt hk⟩)
  have HBB4 := Lib.hid (HBB.out.later hb4)
  have HB4 := Lib.hid (stepB HB3.out hb4)
  have HZ4 := Lib.hid hb4.size
  clear hs1 hb4
  dsimp only
  go_wp2_with fail
  refine (HNK.out w4).mono ?_
  rintro e V ⟨b2, k2, rfl, hs2, hb5⟩
  rw [show List.take 8 ([] : List EntL) = [] from rfl] at hs2
  have HP1 := Lib.hid (HP1a.out.later hb5)
  have HP2 := Lib.hid (both_new HBB4.out hb5 hs2)
  have HO2 := Lib.hid (show ∀ k, ownK b2 k2 k → w4.heap.size ≤ k ∧ k < V.heap.size from fun k hk => ⟨hs2.ownLo hk, hs2.ownLt hk⟩)
  have HBV := Lib.hid (stepB HB4.out hb5)
  have HZ5 := Lib.hid hb5.size
  clear hs2 hb5
  have HLT1 := Lib.hid (show ∀ k, own2 ga b1 k1 k → W.heap.size ≤ k ∧ k < V.heap.size from fun k hk => by
    have h3 := HZ3.out
    have h4 := HZ4.out
    have h5 := HZ5.out
    have hw := HZ2.out
    rcases hk with hk | hk
    · have := HOW.out k hk
      omega
    · have := HO1.out k hk
      omega)
  have HLT2 := Lib.hid (show ∀ k, own2 gb b2 k2 k → W.heap.size ≤ k ∧ k < V.heap.size from fun k hk => by
    have h3 := HZ3.out
    have h4 := HZ4.out
    have h5 := HZ5.out
    have hw := HZ2.out
    rcases hk with hk | hk
    · have := HOC.out k hk
      omega
    · have := HO2.out k hk
      omega)
  have HAP := Lib.hid (show ∀ k, own2 ga b1 k1 k → ¬own2 gb b2 k2 k from fun k h1 h2 => by
    have h3 := HZ3.out
    have h4 := HZ4.out
    have h5 := HZ5.out
    rcases h1 with h1 | h1 <;> rcases h2 with h2 | h2
    · have := HOW.out k h1
      have := HOC.out k h2
      omega
    · have := HOW.out k h1
      have := HO2.out k h2
      omega
    · have := HO1.out k h1
      have := HOC.out k h2
      omega
    · have := HO1.out k h1
      have := HO2.out k h2
      omega)
  have HSR := Lib.hid (stable_round HBB.out.wf HBB.out.st.n1)
  have HLS := Lib.hid (show W.heap.size ≤ V.heap.size from HBV.out.size)
  obtain ⟨ls, hls⟩ : ∃ ls, w4.heap.size = ls := ⟨_, rfl⟩
  obtain ⟨ks, hks⟩ : ∃ ks, w3.heap.size = ks := ⟨_, rfl⟩
  rw [hls] at HP2
  rw [hks] at HP1
  clear HOW HOC HO1 HO2 HZ2 HZ3 HZ4 HZ5 HBA HBB HBB4 HP1a HB3 HB4 hls hks HC1 HNK
  dsimp only
  go_wp2
  go_loopw [11, 12, 13] (fun v11 v12 i wr => ∃ (j : Nat) (a1 : Option Addr) (n1 : Nat) (a2 : Option Addr) (n2 : Nat) (g2 : GhostB) (m2 : Option Nat), j ≤ 1 ∧ i = .int .i64 j ∧ v11 = .slice a1 (dJ B j).length n1 ∧ v12 = .slice a2 (xJ B j).length n2 ∧ Hid (RunsAt V wr lb ls gb b2 k2 g2 m2 (stB B j) (stK B b [] j) (.slice a1 (dJ B j).length n1) (.slice a2 (xJ B j).length n2) (.slice none 0 0) (.slice none 0 0) (dJ B j) (xJ B j) [] []) ∧ Hid (g2.q = qb) ∧ Hid ((j = 1 → stableT B = false) ∧ (j = 0 → a1 = none ∧ n1 = 0 ∧ a2 = none ∧ n2 = 0))) (fun _ _ i _ => 60 - (intOf i).toNat)
  case atStart => exact ⟨0, none, 0, none, 0, gb, k2, by omega, rfl, rfl, rfl, Lib.hid ⟨HP2.out, TurnedO.of_below (Below.refl _ _), RepAt.none _ _ _, RepAt.none _ _ _, RepAt.none _ _ _, RepAt.none _ _ _⟩, HQB, Lib.hid ⟨fun e => by omega, fun _ => ⟨rfl, rfl, rfl, rfl⟩⟩⟩
  case round =>
    obtain ⟨j, a1, n1, a2, n2, g2, m2, hj, rfl, rfl, rfl, HRN, HQ2, HJ⟩ := hrel
    obtain ⟨wo, rfl⟩ : ∃ wo, wo = wr := ⟨_, rfl⟩
    have d60 : decide ((j : Int) < 60) = true := decide_eq_true (by omega)
    have HBJ := Lib.hid HRN.out.bo.bd
    obtain ⟨Bj, hBj⟩ : ∃ Bj, stB B j = Bj := ⟨_, rfl⟩
    have HBE := Lib.hid hBj
    obtain ⟨Lj, hLj⟩ : ∃ Lj, stK B b [] j = Lj := ⟨_, rfl⟩
    have HLE := Lib.hid hLj
    obtain ⟨DJ, hDJ⟩ : ∃ DJ, dJ B j = DJ := ⟨_, rfl⟩
    have HDJ := Lib.hid hDJ
    obtain ⟨XJ, hXJ⟩ : ∃ XJ, xJ B j = XJ := ⟨_, rfl⟩
    have HXJ := Lib.hid hXJ
    rw [hBj] at HBJ HRN
    rw [hLj, hDJ, hXJ] at HRN
    rw [hDJ, hXJ]
    clear hBj hLj hDJ hXJ
    have HS4 := Lib.hid (show Bj.S.seats = 4 from by
      rw [← HBE.out]
      unfold stB
      split
      · exact HLN.out.2
      · exact (keeps_bury _ _).seats.trans HLN.out.2)
    have HL8 := Lib.hid (show Bj.S.objs.length ≤ 800 from by
      rw [← HBE.out]
      unfold stB
      split
      · exact HLN.out.1
      · rw [show (roundB B).S = buryS B.S (diesL B.S) from rfl, (keeps_bury _ _).len]; exact HLN.out.1)
    have HIN := Lib.hid (in_any HBJ.out.st (HBJ.out.wf.short (by have := HBJ.out.len; omega)) (s := 0) (z := 3) ⟨by decide, by decide⟩ ⟨by decide, by decide⟩)
    rw [inL_field (by rw [HS4.out]; decide)] at HIN
    obtain ⟨ids, hids⟩ : ∃ ids, Bj.S.pl 0 3 = ids := ⟨_, rfl⟩
    have HID := Lib.hid hids
    rw [hids] at HIN
    have HDF := Lib.hid (dies_filter HBJ.out.wf HBJ.out.st.n1)
    rw [hids] at HDF
    have HIL := Lib.hid (show ids.length ≤ 800 from by
      rw [← hids]
      refine Nat.le_trans (nodup_len _ _ (HBJ.out.wf.nodup 0 3 ⟨by have := HBJ.out.st.n1; omega, by omega, by omega, fun _ => rfl⟩) fun x hx => ?_) HL8.out
      obtain ⟨k, hk, rfl, _⟩ := HBJ.out.wf.onField HBJ.out.st.n1 hx
      omega)
    clear hids
    obtain ⟨cs, ct, -⟩ := HBJ.out.cells
    obtain ⟨sb, hsb⟩ : ∃ sb, g2.b = sb := ⟨_, rfl⟩
    have HSB := Lib.hid hsb
    rw [HQ2.out, hsb] at cs
    rw [hsb] at HIN
    clear hsb ct
    go_wp2_with fail
    refine HIN.out.mono ?_
    rintro e w6 ⟨iv, rfl, ho6, hb6⟩
    obtain ⟨ia, ic, rfl⟩ := own_form1 ho6
    have HO6 := Lib.hid ho6
    have HB6 := Lib.hid hb6
    have hil : ids.length ≤ 1000 := by have := HIL.out; omega
    clear ho6 hb6 HIN cs
    dsimp only
    go_upto_block 2 with fail
    go_cut [14, 17, 18, 19] from 55 to 241 (fun s14 _ _ _ wx => ∃ (va2 : Option Addr) (vc2 : Nat), s14 = .slice va2 (diesL Bj.S).length vc2 ∧ Hid (wx.ownsRow w6.heap.size 3 1 (.slice va2 (diesL Bj.S).length vc2) (diesL Bj.S).length (intsV (diesL Bj.S))) ∧ Hid (Below w6.heap.size w6 wx))
    case first =>
      go_wp2_with fail
      go_loopw [14, 63] (fun v14 i wr => ∃ (k : Nat) (va2 : Option Addr) (vc2 : Nat), k ≤ ids.length ∧ i = .int .i64 k ∧ v14 = .slice va2 ((ids.take k).filter (deadS Bj.S)).length vc2 ∧ Hid (wr.ownsRow w6.heap.size 3 1 (.slice va2 ((ids.take k).filter (deadS Bj.S)).length vc2) ((ids.take k).filter (deadS Bj.S)).length (intsV ((ids.take k).filter (deadS Bj.S)))) ∧ Hid (Below w6.heap.size w6 wr)) (fun _ i _ => ids.length - (intOf i).toNat)
      case atStart => exact ⟨0, none, 0, Nat.zero_le _, rfl, rfl, Lib.hid (World.ownsRow_nil _ _ _ _), Lib.hid (Below.refl _ _)⟩
      case round =>
        obtain ⟨k, va2, vc2, hk, rfl, rfl, HRw, HBr⟩ := hrel
        by_cases hlt : k < ids.length
        · have d0 : decide ((k : Int) < ids.length) = true := decide_eq_true (by omega)
          have HBr6 := Lib.hid (stepB HB6.out HBr.out)
          obtain ⟨r, off, hr, _, c0⟩ := (own_ints (own_later HO6.out HBr.out)).at k hlt
          have htk := take_last ids k hlt
          obtain ⟨y, hy⟩ : ∃ y, ids[k] = y := ⟨_, rfl⟩
          rw [hy] at c0 htk
          have HTK := Lib.hid htk
          clear hy htk
          subst hr
          have HBJr := Lib.hid (HBJ.out.later HBr6.out)
          have HGT := Lib.hid (getI_any HBJr.out y)
          have HCQ := Lib.hid (fun (w' : World) (hb : Below wr.heap.size wr w') => (HBJr.out.later hb).cells.1)
          have HLV := Lib.hid (fun (w' : World) (hb : Below wr.heap.size wr w') => live_any (HBJr.out.later hb).st HBJ.out.wf (by have := HL8.out; omega) y)
          have HTG := Lib.hid (fun (w' : World) (hb : Below wr.heap.size wr w') => tough_any (HBJr.out.later hb).st HBJ.out.wf (by have := HL8.out; omega) y)
          have HDE := Lib.hid (dead_eq Bj.S y)
          rw [HQ2.out, HSB.out] at HCQ
          rw [HSB.out] at HGT HLV HTG
          obtain ⟨ob, hob⟩ : ∃ ob, objI Bj.S y = ob := ⟨_, rfl⟩
          obtain ⟨er, her⟩ : ∃ er, errI Bj.S y = er := ⟨_, rfl⟩
          obtain ⟨tg, htg⟩ : ∃ tg, touS Bj.S y = tg := ⟨_, rfl⟩
          obtain ⟨lv, hlv⟩ : ∃ lv, (creE Bj.S y == 0) = lv := ⟨_, rfl⟩
          rw [hob, her] at HGT
          rw [htg] at HTG HDE
          rw [hlv] at HLV HDE
          rw [hob] at HDE
          clear hob her htg hlv
          obtain ⟨o0, o1, o2, o3, o4, o5, hz, o7, o8, o9, o10⟩ := ob
          dsimp only at HDE
          unfold RetGet oagg at HGT
          dsimp only at HGT
          have cq := HCQ.out wr (Below.refl _ _)
          go_wp2_with fail
          refine HGT.out.mono ?_
          rintro e w7 ⟨rfl, hb7⟩
          dsimp only
          have hb8 := below_alloc2 hb7 (.cells #[.int .i64 o0, .int .i64 o1, .int .i64 o2, .int .i64 o3, .bool o4, .bool o5, .int .i64 hz, .int .i64 o7, .int .i64 o8, .int .i64 o9, .bool o10] 39)
          have hrow := heap_alloc_new w7 (.cells #[.int .i64 o0, .int .i64 o1, .int .i64 o2, .int .i64 o3, .bool o4, .bool o5, .int .i64 hz, .int .i64 o7, .int .i64 o8, .int .i64 o9, .bool o10] 39)
          go_wp2
          obtain ⟨w8, hw8⟩ : ∃ w8, w7.alloc (.cells #[.int .i64 o0, .int .i64 o1, .int .i64 o2, .int .i64 o3, .bool o4, .bool o5, .int .i64 hz, .int .i64 o7, .int .i64 o8, .int .i64 o9, .bool o10] 39) = w8 := ⟨_, rfl⟩
          obtain ⟨q18, hq18⟩ : ∃ q18, w7.heap.size = q18 := ⟨_, rfl⟩
          rw [hw8] at hb8 hrow ⊢
          rw [hq18] at hrow ⊢
          have HB8 := Lib.hid hb8
          have HSF := Lib.hid (fun (w' : World) (hb : Below w8.heap.size w8 w') => show w'.cell? ⟨qb, 0, none⟩ = some (.pointer (some ⟨sb, 0, none⟩)) ∧ w'.cell? ⟨q18, 6, none⟩ = some (.int .i64 hz) from ⟨HCQ.out w' (stepB HB8.out hb), cell_stays hb (cell_of_row w8 q18 6 _ _ (0, 0) hrow)⟩)
          have HLV2 := Lib.hid (fun (w' : World) (hb : Below w8.heap.size w8 w') => HLV.out w' (stepB HB8.out hb))
          have HTG2 := Lib.hid (fun (w' : World) (hb : Below w8.heap.size w8 w') => HTG.out w' (stepB HB8.out hb))
          clear hb7 hb8 hrow hw8 hq18 cq c0 HLV HTG HGT HCQ
          have HLV := HLV2
          have HTG := HTG2
          go_cut [101] from 64 to 106 (fun s101 wx => s101 = .bool (deadS Bj.S y) ∧ Hid (Below w8.heap.size w8 wx))
          case first =>
            cases lv with
            | false =>
              refine wp_region_noPanic ?_
              refine (wpIn_wide (n := 9)).1 ?_
              refine wpIn_region_any (by kernel_rfl) ?_
              change wpAnyIn _ _ _ _ _ _ _ _ _ (World.drew _)
              refine anyS.any (S := fun w' => w'.cell? ⟨qb, 0, none⟩ = some (.pointer (some ⟨sb, 0, none⟩)) ∧ w'.cell? ⟨q18, 6, none⟩ = some (.int .i64 hz)) ?_
              refine anyS_take (i := 0) (v := ?_) (by kernel_rfl) rfl (by kernel_rfl) (by kernel_rfl) (by kernel_rfl) (fun _ _ _ h => h) (by kernel_rfl) (fun _ => rfl) ?_ ?_
              rotate_left
              · intro w' hS
                obtain ⟨s1, s2⟩ := hS
                go_simp
                try with_reducible rfl
              refine anyS_take (i := 1) (v := ?_) (by kernel_rfl) rfl (by kernel_rfl) (by kernel_rfl) (by kernel_rfl) (fun _ _ _ h => h) (by kernel_rfl) (fun _ => rfl) ?_ ?_
              rotate_left
              · intro w' hS
                obtain ⟨s1, s2⟩ := hS
                go_simp
                try with_reducible rfl
              refine anyS_take (i := 2) (v := ?_) (by kernel_rfl) rfl (by kernel_rfl) (by kernel_rfl) (by kernel_rfl) (fun _ _ _ h => h) (by kernel_rfl) (fun _ => rfl) ?_ ?_
              rotate_left
              · intro w' hS
                obtain ⟨s1, s2⟩ := hS
                go_simp
                try with_reducible rfl
              refine anyS_take (i := 3) (v := ?_) (by kernel_rfl) rfl (by kernel_rfl) (by kernel_rfl) (by kernel_rfl) (fun _ _ _ h => h) (by kernel_rfl) (fun _ => rfl) ?_ ?_
              rotate_left
              · intro w' hS
                obtain ⟨s1, s2⟩ := hS
                go_simp
                try with_reducible rfl
              refine anyS_take (i := 4) (v := ?_) (by kernel_rfl) rfl (by kernel_rfl) (by kernel_rfl) (by kernel_rfl) (fun _ _ _ h => h) (by kernel_rfl) (fun _ => rfl) ?_ ?_
              rotate_left
              · intro w' hS
                obtain ⟨s1, s2⟩ := hS
                go_simp
                try with_reducible rfl
              refine anyS_one (i := 5) (by kernel_rfl) rfl (HSF.out _ (Below.refl _ _).drew) (fun K hK => ?_)
              go_simp
              gi_wp2_with ((refine ⟨trivial, ?_⟩; gi_at_call 12; refine CallsIn.mono (F := Fence.wide) (callsIn_wide.2 (HLV.out _ (Below.refl w8.heap.size w8).drew)) ?_; rintro e w9 ⟨rfl, hb9⟩; have HB9 := Lib.hid (stepB (Below.refl w8.heap.size w8).drew hb9); clear hb9))
              refine anyS_take (i := 6) (v := ?_) (by kernel_rfl) rfl (by kernel_rfl) (by kernel_rfl) (by kernel_rfl) (fun _ _ _ h => h) (by kernel_rfl) (fun _ => rfl) ?_ ?_
              rotate_left
              · intro w' hS
                obtain ⟨s1, s2⟩ := hS
                go_simp
                try with_reducible rfl
              refine anyS_skip (i := 7) (by kernel_rfl) rfl (by kernel_rfl) (by kernel_rfl) (by kernel_rfl) (fun _ _ _ h => h) (by kernel_rfl) (fun _ => by rfl) ?_
              refine anyS_skip (i := 8) (by kernel_rfl) rfl (by kernel_rfl) (by kernel_rfl) (by kernel_rfl) (fun _ _ _ h => h) (by kernel_rfl) (fun _ => by rfl) ?_
              refine anyS_skip (i := 9) (by kernel_rfl) rfl (by kernel_rfl) (by kernel_rfl) (by kernel_rfl) (fun _ _ _ h => h) (by kernel_rfl) (fun _ => by rfl) ?_
              refine anyS_skip (i := 10) (by kernel_rfl) rfl (by kernel_rfl) (by kernel_rfl) (by kernel_rfl) (fun _ _ _ h => h) (by kernel_rfl) (fun _ => by rfl) ?_
              refine anyS_skip (i := 11) (by kernel_rfl) rfl (by kernel_rfl) (by kernel_rfl) (by kernel_rfl) (fun _ _ _ h => h) (by kernel_rfl) (fun _ => by rfl) ?_
              refine anyS_one (i := 12) (by kernel_rfl) rfl (HSF.out _ HB9.out) (fun K hK => ?_)
              go_simp
              refine ⟨trivial, hK _ _ ?_⟩
              clear hK K
              refine anyS_skip (i := 13) (by kernel_rfl) rfl (by kernel_rfl) (by kernel_rfl) (by kernel_rfl) (fun _ _ _ h => h) (by kernel_rfl) (fun _ => by rfl) ?_
              refine anyS_skip (i := 14) (by kernel_rfl) rfl (by kernel_rfl) (by kernel_rfl) (by kernel_rfl) (fun _ _ _ h => h) (by kernel_rfl) (fun _ => by rfl) ?_
              refine anyS_skip (i := 15) (by kernel_rfl) rfl (by kernel_rfl) (by kernel_rfl) (by kernel_rfl) (fun _ _ _ h => h) (by kernel_rfl) (fun _ => by rfl) ?_
              refine anyS_skip (i := 16) (by kernel_rfl) rfl (by kernel_rfl) (by kernel_rfl) (by kernel_rfl) (fun _ _ _ h => h) (by kernel_rfl) (fun _ => by rfl) ?_
              refine anyS_skip (i := 17) (by kernel_rfl) rfl (by kernel_rfl) (by kernel_rfl) (by kernel_rfl) (fun _ _ _ h => h) (by kernel_rfl) (fun _ => by rfl) ?_
              refine anyS_skip (i := 18) (by kernel_rfl) rfl (by kernel_rfl) (by kernel_rfl) (by kernel_rfl) (fun _ _ _ h => h) (by kernel_rfl) (fun _ => by rfl) ?_
              refine anyS_skip (i := 19) (by kernel_rfl) rfl (by kernel_rfl) (by kernel_rfl) (by kernel_rfl) (fun _ _ _ h => h) (by kernel_rfl) (fun _ => by rfl) ?_
              refine anyS_skip (i := 20) (by kernel_rfl) rfl (by kernel_rfl) (by kernel_rfl) (by kernel_rfl) (fun _ _ _ h => h) (by kernel_rfl) (fun _ => by rfl) ?_
              refine anyS_skip (i := 21) (by kernel_rfl) rfl (by kernel_rfl) (by kernel_rfl) (by kernel_rfl) (fun _ _ _ h => h) (by kernel_rfl) (fun _ => by rfl) ?_
              refine anyS_one (i := 22) (by kernel_rfl) rfl (HSF.out _ HB9.out) (fun K hK => ?_)
              go_simp
              refine ⟨trivial, hK _ _ ?_⟩
              clear hK K
              refine anyS_skip (i := 23) (by kernel_rfl) rfl (by kernel_rfl) (by kernel_rfl) (by kernel_rfl) (fun _ _ _ h => h) (by kernel_rfl) (fun _ => by rfl) ?_
              refine anyS_skip (i := 24) (by kernel_rfl) rfl (by kernel_rfl) (by kernel_rfl) (by kernel_rfl) (fun _ _ _ h => h) (by kernel_rfl) (fun _ => by rfl) ?_
              refine anyS_take (i := 25) (v := ?_) (by kernel_rfl) rfl (by kernel_rfl) (by kernel_rfl) (by kernel_rfl) (fun _ _ _ h => h) (by kernel_rfl) (fun _ => rfl) ?_ ?_
              rotate_left
              · intro w' hS
                obtain ⟨s1, s2⟩ := hS
                go_simp
                try with_reducible rfl
              refine anyS_done (by kernel_rfl) (HSF.out _ HB9.out) ?_ _
              refine NoPanic.normal ?_
              go_wp2
              go_meet
              case rel => exact ⟨by rw [HDE.out]; rfl, HB9⟩
            | true =>
              by_cases h0 : tg = 0
              · subst h0
                refine wp_region_noPanic ?_
                refine (wpIn_wide (n := 9)).1 ?_
                refine wpIn_region_any (by kernel_rfl) ?_
                change wpAnyIn _ _ _ _ _ _ _ _ _ (World.drew _)
                refine anyS.any (S := fun w' => w'.cell? ⟨qb, 0, none⟩ = some (.pointer (some ⟨sb, 0, none⟩)) ∧ w'.cell? ⟨q18, 6, none⟩ = some (.int .i64 hz)) ?_
                refine anyS_take (i := 0) (v := ?_) (by kernel_rfl) rfl (by kernel_rfl) (by kernel_rfl) (by kernel_rfl) (fun _ _ _ h => h) (by kernel_rfl) (fun _ => rfl) ?_ ?_
                rotate_left
                · intro w' hS
                  obtain ⟨s1, s2⟩ := hS
                  go_simp
                  try with_reducible rfl
                refine anyS_take (i := 1) (v := ?_) (by kernel_rfl) rfl (by kernel_rfl) (by kernel_rfl) (by kernel_rfl) (fun _ _ _ h => h) (by kernel_rfl) (fun _ => rfl) ?_ ?_
                rotate_left
                · intro w' hS
                  obtain ⟨s1, s2⟩ := hS
                  go_simp
                  try with_reducible rfl
                refine anyS_take (i := 2) (v := ?_) (by kernel_rfl) rfl (by kernel_rfl) (by kernel_rfl) (by kernel_rfl) (fun _ _ _ h => h) (by kernel_rfl) (fun _ => rfl) ?_ ?_
                rotate_left
                · intro w' hS
                  obtain ⟨s1, s2⟩ := hS
                  go_simp
                  try with_reducible rfl
                refine anyS_take (i := 3) (v := ?_) (by kernel_rfl) rfl (by kernel_rfl) (by kernel_rfl) (by kernel_rfl) (fun _ _ _ h => h) (by kernel_rfl) (fun _ => rfl) ?_ ?_
                rotate_left
                · intro w' hS
                  obtain ⟨s1, s2⟩ := hS
                  go_simp
                  try with_reducible rfl
                refine anyS_take (i := 4) (v := ?_) (by kernel_rfl) rfl (by kernel_rfl) (by kernel_rfl) (by kernel_rfl) (fun _ _ _ h => h) (by kernel_rfl) (fun _ => rfl) ?_ ?_
                rotate_left
                · intro w' hS
                  obtain ⟨s1, s2⟩ := hS
                  go_simp
                  try with_reducible rfl
                refine anyS_one (i := 5) (by kernel_rfl) rfl (HSF.out _ (Below.refl _ _).drew) (fun K hK => ?_)
                go_simp
                gi_wp2_with ((refine ⟨trivial, ?_⟩; gi_at_call 12; refine CallsIn.mono (F := Fence.wide) (callsIn_wide.2 (HLV.out _ (Below.refl w8.heap.size w8).drew)) ?_; rintro e w9 ⟨rfl, hb9⟩; have HB9 := Lib.hid (stepB (Below.refl w8.heap.size w8).drew hb9); clear hb9))
                refine anyS_take (i := 6) (v := ?_) (by kernel_rfl) rfl (by kernel_rfl) (by kernel_rfl) (by kernel_rfl) (fun _ _ _ h => h) (by kernel_rfl) (fun _ => rfl) ?_ ?_
                rotate_left
                · intro w' hS
                  obtain ⟨s1, s2⟩ := hS
                  go_simp
                  try with_reducible rfl
                refine anyS_take (i := 7) (v := ?_) (by kernel_rfl) rfl (by kernel_rfl) (by kernel_rfl) (by kernel_rfl) (fun _ _ _ h => h) (by kernel_rfl) (fun _ => rfl) ?_ ?_
                rotate_left
                · intro w' hS
                  obtain ⟨s1, s2⟩ := hS
                  go_simp
                  try with_reducible rfl
                refine anyS_take (i := 8) (v := ?_) (by kernel_rfl) rfl (by kernel_rfl) (by kernel_rfl) (by kernel_rfl) (fun _ _ _ h => h) (by kernel_rfl) (fun _ => rfl) ?_ ?_
                rotate_left
                · intro w' hS
                  obtain ⟨s1, s2⟩ := hS
                  go_simp
                  try with_reducible rfl
                refine anyS_take (i := 9) (v := ?_) (by kernel_rfl) rfl (by kernel_rfl) (by kernel_rfl) (by kernel_rfl) (fun _ _ _ h => h) (by kernel_rfl) (fun _ => rfl) ?_ ?_
                rotate_left
                · intro w' hS
                  obtain ⟨s1, s2⟩ := hS
                  go_simp
                  try with_reducible rfl
                refine anyS_take (i := 10) (v := ?_) (by kernel_rfl) rfl (by kernel_rfl) (by kernel_rfl) (by kernel_rfl) (fun _ _ _ h => h) (by kernel_rfl) (fun _ => rfl) ?_ ?_
                rotate_left
                · intro w' hS
                  obtain ⟨s1, s2⟩ := hS
                  go_simp
                  try with_reducible rfl
                refine anyS_take (i := 11) (v := ?_) (by kernel_rfl) rfl (by kernel_rfl) (by kernel_rfl) (by kernel_rfl) (fun _ _ _ h => h) (by kernel_rfl) (fun _ => rfl) ?_ ?_
                rotate_left
                · intro w' hS
                  obtain ⟨s1, s2⟩ := hS
                  go_simp
                  try with_reducible rfl
                refine anyS_one (i := 12) (by kernel_rfl) rfl (HSF.out _ HB9.out) (fun K hK => ?_)
                go_simp
                gi_wp2_with ((refine ⟨trivial, ?_⟩; gi_at_call 13; refine CallsIn.mono (F := Fence.wide) (callsIn_wide.2 (HTG.out _ HB9.out)) ?_; rintro e wA ⟨rfl, hba⟩; have HBA := Lib.hid (stepB HB9.out hba); clear hba))
                refine anyS_take (i := 13) (v := ?_) (by kernel_rfl) rfl (by kernel_rfl) (by kernel_rfl) (by kernel_rfl) (fun _ _ _ h => h) (by kernel_rfl) (fun _ => rfl) ?_ ?_
                rotate_left
                · intro w' hS
                  obtain ⟨s1, s2⟩ := hS
                  go_simp
                  try with_reducible rfl
                refine anyS_take (i := 14) (v := ?_) (by kernel_rfl) rfl (by kernel_rfl) (by kernel_rfl) (by kernel_rfl) (fun _ _ _ h => h) (by kernel_rfl) (fun _ => rfl) ?_ ?_
                rotate_left
                · intro w' hS
                  obtain ⟨s1, s2⟩ := hS
                  go_simp
                  try with_reducible rfl
                refine anyS_skip (i := 15) (by kernel_rfl) rfl (by kernel_rfl) (by kernel_rfl) (by kernel_rfl) (fun _ _ _ h => h) (by kernel_rfl) (fun _ => by rfl) ?_
                refine anyS_skip (i := 16) (by kernel_rfl) rfl (by kernel_rfl) (by kernel_rfl) (by kernel_rfl) (fun _ _ _ h => h) (by kernel_rfl) (fun _ => by rfl) ?_
                refine anyS_skip (i := 17) (by kernel_rfl) rfl (by kernel_rfl) (by kernel_rfl) (by kernel_rfl) (fun _ _ _ h => h) (by kernel_rfl) (fun _ => by rfl) ?_
                refine anyS_skip (i := 18) (by kernel_rfl) rfl (by kernel_rfl) (by kernel_rfl) (by kernel_rfl) (fun _ _ _ h => h) (by kernel_rfl) (fun _ => by rfl) ?_
                refine anyS_skip (i := 19) (by kernel_rfl) rfl (by kernel_rfl) (by kernel_rfl) (by kernel_rfl) (fun _ _ _ h => h) (by kernel_rfl) (fun _ => by rfl) ?_
                refine anyS_skip (i := 20) (by kernel_rfl) rfl (by kernel_rfl) (by kernel_rfl) (by kernel_rfl) (fun _ _ _ h => h) (by kernel_rfl) (fun _ => by rfl) ?_
                refine anyS_skip (i := 21) (by kernel_rfl) rfl (by kernel_rfl) (by kernel_rfl) (by kernel_rfl) (fun _ _ _ h => h) (by kernel_rfl) (fun _ => by rfl) ?_
                refine anyS_one (i := 22) (by kernel_rfl) rfl (HSF.out _ HBA.out) (fun K hK => ?_)
                go_simp
                refine ⟨trivial, hK _ _ ?_⟩
                clear hK K
                refine anyS_skip (i := 23) (by kernel_rfl) rfl (by kernel_rfl) (by kernel_rfl) (by kernel_rfl) (fun _ _ _ h => h) (by kernel_rfl) (fun _ => by rfl) ?_
                refine anyS_take (i := 24) (v := ?_) (by kernel_rfl) rfl (by kernel_rfl) (by kernel_rfl) (by kernel_rfl) (fun _ _ _ h => h) (by kernel_rfl) (fun _ => rfl) ?_ ?_
                rotate_left
                · intro w' hS
                  obtain ⟨s1, s2⟩ := hS
                  go_simp
                  try with_reducible rfl
                refine anyS_take (i := 25) (v := ?_) (by kernel_rfl) rfl (by kernel_rfl) (by kernel_rfl) (by kernel_rfl) (fun _ _ _ h => h) (by kernel_rfl) (fun _ => rfl) ?_ ?_
                rotate_left
                · intro w' hS
                  obtain ⟨s1, s2⟩ := hS
                  go_simp
                  try with_reducible rfl
                refine anyS_done (by kernel_rfl) (HSF.out _ HBA.out) ?_ _
                refine NoPanic.normal ?_
                go_wp2
                go_meet
                case rel => exact ⟨by rw [HDE.out]; rfl, HBA⟩
              · have e0 : (tg == 0) = false := beq_eq_false_iff_ne.2 h0
                by_cases h1 : tg ≤ hz
                · have d1 : decide (tg ≤ hz) = true := decide_eq_true h1
                  refine wp_region_noPanic ?_
                  refine (wpIn_wide (n := 9)).1 ?_
                  refine wpIn_region_any (by kernel_rfl) ?_
                  change wpAnyIn _ _ _ _ _ _ _ _ _ (World.drew _)
                  refine anyS.any (S := fun w' => w'.cell? ⟨qb, 0, none⟩ = some (.pointer (some ⟨sb, 0, none⟩)) ∧ w'.cell? ⟨q18, 6, none⟩ = some (.int .i64 hz)) ?_
                  refine anyS_take (i := 0) (v := ?_) (by kernel_rfl) rfl (by kernel_rfl) (by kernel_rfl) (by kernel_rfl) (fun _ _ _ h => h) (by kernel_rfl) (fun _ => rfl) ?_ ?_
                  rotate_left
                  · intro w' hS
                    obtain ⟨s1, s2⟩ := hS
                    go_simp
                    try with_reducible rfl
                  refine anyS_take (i := 1) (v := ?_) (by kernel_rfl) rfl (by kernel_rfl) (by kernel_rfl) (by kernel_rfl) (fun _ _ _ h => h) (by kernel_rfl) (fun _ => rfl) ?_ ?_
                  rotate_left
                  · intro w' hS
                    obtain ⟨s1, s2⟩ := hS
                    go_simp
                    try with_reducible rfl
                  refine anyS_take (i := 2) (v := ?_) (by kernel_rfl) rfl (by kernel_rfl) (by kernel_rfl) (by kernel_rfl) (fun _ _ _ h => h) (by kernel_rfl) (fun _ => rfl) ?_ ?_
                  rotate_left
                  · intro w' hS
                    obtain ⟨s1, s2⟩ := hS
                    go_simp
                    try with_reducible rfl
                  refine anyS_take (i := 3) (v := ?_) (by kernel_rfl) rfl (by kernel_rfl) (by kernel_rfl) (by kernel_rfl) (fun _ _ _ h => h) (by kernel_rfl) (fun _ => rfl) ?_ ?_
                  rotate_left
                  · intro w' hS
                    obtain ⟨s1, s2⟩ := hS
                    go_simp
                    try with_reducible rfl
                  refine anyS_take (i := 4) (v := ?_) (by kernel_rfl) rfl (by kernel_rfl) (by kernel_rfl) (by kernel_rfl) (fun _ _ _ h => h) (by kernel_rfl) (fun _ => rfl) ?_ ?_
                  rotate_left
                  · intro w' hS
                    obtain ⟨s1, s2⟩ := hS
                    go_simp
                    try with_reducible rfl
                  refine anyS_one (i := 5) (by kernel_rfl) rfl (HSF.out _ (Below.refl _ _).drew) (fun K hK => ?_)
                  go_simp
                  gi_wp2_with ((refine ⟨trivial, ?_⟩; gi_at_call 12; refine CallsIn.mono (F := Fence.wide) (callsIn_wide.2 (HLV.out _ (Below.refl w8.heap.size w8).drew)) ?_; rintro e w9 ⟨rfl, hb9⟩; have HB9 := Lib.hid (stepB (Below.refl w8.heap.size w8).drew hb9); clear hb9))
                  refine anyS_take (i := 6) (v := ?_) (by kernel_rfl) rfl (by kernel_rfl) (by kernel_rfl) (by kernel_rfl) (fun _ _ _ h => h) (by kernel_rfl) (fun _ => rfl) ?_ ?_
                  rotate_left
                  · intro w' hS
                    obtain ⟨s1, s2⟩ := hS
                    go_simp
                    try with_reducible rfl
                  refine anyS_take (i := 7) (v := ?_) (by kernel_rfl) rfl (by kernel_rfl) (by kernel_rfl) (by kernel_rfl) (fun _ _ _ h => h) (by kernel_rfl) (fun _ => rfl) ?_ ?_
                  rotate_left
                  · intro w' hS
                    obtain ⟨s1, s2⟩ := hS
                    go_simp
                    try with_reducible rfl
                  refine anyS_take (i := 8) (v := ?_) (by kernel_rfl) rfl (by kernel_rfl) (by kernel_rfl) (by kernel_rfl) (fun _ _ _ h => h) (by kernel_rfl) (fun _ => rfl) ?_ ?_
                  rotate_left
                  · intro w' hS
                    obtain ⟨s1, s2⟩ := hS
                    go_simp
                    try with_reducible rfl
                  refine anyS_take (i := 9) (v := ?_) (by kernel_rfl) rfl (by kernel_rfl) (by kernel_rfl) (by kernel_rfl) (fun _ _ _ h => h) (by kernel_rfl) (fun _ => rfl) ?_ ?_
                  rotate_left
                  · intro w' hS
                    obtain ⟨s1, s2⟩ := hS
                    go_simp
                    try with_reducible rfl
                  refine anyS_take (i := 10) (v := ?_) (by kernel_rfl) rfl (by kernel_rfl) (by kernel_rfl) (by kernel_rfl) (fun _ _ _ h => h) (by kernel_rfl) (fun _ => rfl) ?_ ?_
                  rotate_left
                  · intro w' hS
                    obtain ⟨s1, s2⟩ := hS
                    go_simp
                    try with_reducible rfl
                  refine anyS_take (i := 11) (v := ?_) (by kernel_rfl) rfl (by kernel_rfl) (by kernel_rfl) (by kernel_rfl) (fun _ _ _ h => h) (by kernel_rfl) (fun _ => rfl) ?_ ?_
                  rotate_left
                  · intro w' hS
                    obtain ⟨s1, s2⟩ := hS
                    go_simp
                    try with_reducible rfl
                  refine anyS_one (i := 12) (by kernel_rfl) rfl (HSF.out _ HB9.out) (fun K hK => ?_)
                  go_simp
                  gi_wp2_with ((refine ⟨trivial, ?_⟩; gi_at_call 13; refine CallsIn.mono (F := Fence.wide) (callsIn_wide.2 (HTG.out _ HB9.out)) ?_; rintro e wA ⟨rfl, hba⟩; have HBA := Lib.hid (stepB HB9.out hba); clear hba))
                  refine anyS_take (i := 13) (v := ?_) (by kernel_rfl) rfl (by kernel_rfl) (by kernel_rfl) (by kernel_rfl) (fun _ _ _ h => h) (by kernel_rfl) (fun _ => rfl) ?_ ?_
                  rotate_left
                  · intro w' hS
                    obtain ⟨s1, s2⟩ := hS
                    go_simp
                    try with_reducible rfl
                  refine anyS_take (i := 14) (v := ?_) (by kernel_rfl) rfl (by kernel_rfl) (by kernel_rfl) (by kernel_rfl) (fun _ _ _ h => h) (by kernel_rfl) (fun _ => rfl) ?_ ?_
                  rotate_left
                  · intro w' hS
                    obtain ⟨s1, s2⟩ := hS
                    go_simp
                    try with_reducible rfl
                  refine anyS_take (i := 15) (v := ?_) (by kernel_rfl) rfl (by kernel_rfl) (by kernel_rfl) (by kernel_rfl) (fun _ _ _ h => h) (by kernel_rfl) (fun _ => rfl) ?_ ?_
                  rotate_left
                  · intro w' hS
                    obtain ⟨s1, s2⟩ := hS
                    go_simp
                    try with_reducible rfl
                  refine anyS_take (i := 16) (v := ?_) (by kernel_rfl) rfl (by kernel_rfl) (by kernel_rfl) (by kernel_rfl) (fun _ _ _ h => h) (by kernel_rfl) (fun _ => rfl) ?_ ?_
                  rotate_left
                  · intro w' hS
                    obtain ⟨s1, s2⟩ := hS
                    go_simp
                    try with_reducible rfl
                  refine anyS_take (i := 17) (v := ?_) (by kernel_rfl) rfl (by kernel_rfl) (by kernel_rfl) (by kernel_rfl) (fun _ _ _ h => h) (by kernel_rfl) (fun _ => rfl) ?_ ?_
                  rotate_left
                  · intro w' hS
                    obtain ⟨s1, s2⟩ := hS
                    go_simp
                    try with_reducible rfl
                  refine anyS_take (i := 18) (v := ?_) (by kernel_rfl) rfl (by kernel_rfl) (by kernel_rfl) (by kernel_rfl) (fun _ _ _ h => h) (by kernel_rfl) (fun _ => rfl) ?_ ?_
                  rotate_left
                  · intro w' hS
                    obtain ⟨s1, s2⟩ := hS
                    go_simp
                    try with_reducible rfl
                  refine anyS_take (i := 19) (v := ?_) (by kernel_rfl) rfl (by kernel_rfl) (by kernel_rfl) (by kernel_rfl) (fun _ _ _ h => h) (by kernel_rfl) (fun _ => rfl) ?_ ?_
                  rotate_left
                  · intro w' hS
                    obtain ⟨s1, s2⟩ := hS
                    go_simp
                    try with_reducible rfl
                  refine anyS_take (i := 20) (v := ?_) (by kernel_rfl) rfl (by kernel_rfl) (by kernel_rfl) (by kernel_rfl) (fun _ _ _ h => h) (by kernel_rfl) (fun _ => rfl) ?_ ?_
                  rotate_left
                  · intro w' hS
                    obtain ⟨s1, s2⟩ := hS
                    go_simp
                    try with_reducible rfl
                  refine anyS_take (i := 21) (v := ?_) (by kernel_rfl) rfl (by kernel_rfl) (by kernel_rfl) (by kernel_rfl) (fun _ _ _ h => h) (by kernel_rfl) (fun _ => rfl) ?_ ?_
                  rotate_left
                  · intro w' hS
                    obtain ⟨s1, s2⟩ := hS
                    go_simp
                    try with_reducible rfl
                  refine anyS_one (i := 22) (by kernel_rfl) rfl (HSF.out _ HBA.out) (fun K hK => ?_)
                  go_simp
                  gi_wp2_with ((refine ⟨trivial, ?_⟩; gi_at_call 13; refine CallsIn.mono (F := Fence.wide) (callsIn_wide.2 (HTG.out _ HBA.out)) ?_; rintro e wC ⟨rfl, hbc⟩; have HBC := Lib.hid (stepB HBA.out hbc); clear hbc))
                  refine anyS_take (i := 23) (v := ?_) (by kernel_rfl) rfl (by kernel_rfl) (by kernel_rfl) (by kernel_rfl) (fun _ _ _ h => h) (by kernel_rfl) (fun _ => rfl) ?_ ?_
                  rotate_left
                  · intro w' hS
                    obtain ⟨s1, s2⟩ := hS
                    go_simp
                    try with_reducible rfl
                  refine anyS_take (i := 24) (v := ?_) (by kernel_rfl) rfl (by kernel_rfl) (by kernel_rfl) (by kernel_rfl) (fun _ _ _ h => h) (by kernel_rfl) (fun _ => rfl) ?_ ?_
                  rotate_left
                  · intro w' hS
                    obtain ⟨s1, s2⟩ := hS
                    go_simp
                    try with_reducible rfl
                  refine anyS_take (i := 25) (v := ?_) (by kernel_rfl) rfl (by kernel_rfl) (by kernel_rfl) (by kernel_rfl) (fun _ _ _ h => h) (by kernel_rfl) (fun _ => rfl) ?_ ?_
                  rotate_left
                  · intro w' hS
                    obtain ⟨s1, s2⟩ := hS
                    go_simp
                    try with_reducible rfl
                  refine anyS_done (by kernel_rfl) (HSF.out _ HBC.out) ?_ _
                  refine NoPanic.normal ?_
                  go_wp2
                  go_meet
                  case rel => exact ⟨by rw [HDE.out, e0, d1]; rfl, HBC⟩
                · have d1 : decide (tg ≤ hz) = false := decide_eq_false h1
                  refine wp_region_noPanic ?_
                  refine (wpIn_wide (n := 9)).1 ?_
                  refine wpIn_region_any (by kernel_rfl) ?_
                  change wpAnyIn _ _ _ _ _ _ _ _ _ (World.drew _)
                  refine anyS.any (S := fun w' => w'.cell? ⟨qb, 0, none⟩ = some (.pointer (some ⟨sb, 0, none⟩)) ∧ w'.cell? ⟨q18, 6, none⟩ = some (.int .i64 hz)) ?_
                  refine anyS_take (i := 0) (v := ?_) (by kernel_rfl) rfl (by kernel_rfl) (by kernel_rfl) (by kernel_rfl) (fun _ _ _ h => h) (by kernel_rfl) (fun _ => rfl) ?_ ?_
                  rotate_left
                  · intro w' hS
                    obtain ⟨s1, s2⟩ := hS
                    go_simp
                    try with_reducible rfl
                  refine anyS_take (i := 1) (v := ?_) (by kernel_rfl) rfl (by kernel_rfl) (by kernel_rfl) (by kernel_rfl) (fun _ _ _ h => h) (by kernel_rfl) (fun _ => rfl) ?_ ?_
                  rotate_left
                  · intro w' hS
                    obtain ⟨s1, s2⟩ := hS
                    go_simp
                    try with_reducible rfl
                  refine anyS_take (i := 2) (v := ?_) (by kernel_rfl) rfl (by kernel_rfl) (by kernel_rfl) (by kernel_rfl) (fun _ _ _ h => h) (by kernel_rfl) (fun _ => rfl) ?_ ?_
                  rotate_left
                  · intro w' hS
                    obtain ⟨s1, s2⟩ := hS
                    go_simp
                    try with_reducible rfl
                  refine anyS_take (i := 3) (v := ?_) (by kernel_rfl) rfl (by kernel_rfl) (by kernel_rfl) (by kernel_rfl) (fun _ _ _ h => h) (by kernel_rfl) (fun _ => rfl) ?_ ?_
                  rotate_left
                  · intro w' hS
                    obtain ⟨s1, s2⟩ := hS
                    go_simp
                    try with_reducible rfl
                  refine anyS_take (i := 4) (v := ?_) (by kernel_rfl) rfl (by kernel_rfl) (by kernel_rfl) (by kernel_rfl) (fun _ _ _ h => h) (by kernel_rfl) (fun _ => rfl) ?_ ?_
                  rotate_left
                  · intro w' hS
                    obtain ⟨s1, s2⟩ := hS
                    go_simp
                    try with_reducible rfl
                  refine anyS_one (i := 5) (by kernel_rfl) rfl (HSF.out _ (Below.refl _ _).drew) (fun K hK => ?_)
                  go_simp
                  gi_wp2_with ((refine ⟨trivial, ?_⟩; gi_at_call 12; refine CallsIn.mono (F := Fence.wide) (callsIn_wide.2 (HLV.out _ (Below.refl w8.heap.size w8).drew)) ?_; rintro e w9 ⟨rfl, hb9⟩; have HB9 := Lib.hid (stepB (Below.refl w8.heap.size w8).drew hb9); clear hb9))
                  refine anyS_take (i := 6) (v := ?_) (by kernel_rfl) rfl (by kernel_rfl) (by kernel_rfl) (by kernel_rfl) (fun _ _ _ h => h) (by kernel_rfl) (fun _ => rfl) ?_ ?_
                  rotate_left
                  · intro w' hS
                    obtain ⟨s1, s2⟩ := hS
                    go_simp
                    try with_reducible rfl
                  refine anyS_take (i := 7) (v := ?_) (by kernel_rfl) rfl (by kernel_rfl) (by kernel_rfl) (by kernel_rfl) (fun _ _ _ h => h) (by kernel_rfl) (fun _ => rfl) ?_ ?_
                  rotate_left
                  · intro w' hS
                    obtain ⟨s1, s2⟩ := hS
                    go_simp
                    try with_reducible rfl
                  refine anyS_take (i := 8) (v := ?_) (by kernel_rfl) rfl (by kernel_rfl) (by kernel_rfl) (by kernel_rfl) (fun _ _ _ h => h) (by kernel_rfl) (fun _ => rfl) ?_ ?_
                  rotate_left
                  · intro w' hS
                    obtain ⟨s1, s2⟩ := hS
                    go_simp
                    try with_reducible rfl
                  refine anyS_take (i := 9) (v := ?_) (by kernel_rfl) rfl (by kernel_rfl) (by kernel_rfl) (by kernel_rfl) (fun _ _ _ h => h) (by kernel_rfl) (fun _ => rfl) ?_ ?_
                  rotate_left
                  · intro w' hS
                    obtain ⟨s1, s2⟩ := hS
                    go_simp
                    try with_reducible rfl
                  refine anyS_take (i := 10) (v := ?_) (by kernel_rfl) rfl (by kernel_rfl) (by kernel_rfl) (by kernel_rfl) (fun _ _ _ h => h) (by kernel_rfl) (fun _ => rfl) ?_ ?_
                  rotate_left
                  · intro w' hS
                    obtain ⟨s1, s2⟩ := hS
                    go_simp
                    try with_reducible rfl
                  refine anyS_take (i := 11) (v := ?_) (by kernel_rfl) rfl (by kernel_rfl) (by kernel_rfl) (by kernel_rfl) (fun _ _ _ h => h) (by kernel_rfl) (fun _ => rfl) ?_ ?_
                  rotate_left
                  · intro w' hS
                    obtain ⟨s1, s2⟩ := hS
                    go_simp
                    try with_reducible rfl
                  refine anyS_one (i := 12) (by kernel_rfl) rfl (HSF.out _ HB9.out) (fun K hK => ?_)
                  go_simp
                  gi_wp2_with ((refine ⟨trivial, ?_⟩; gi_at_call 13; refine CallsIn.mono (F := Fence.wide) (callsIn_wide.2 (HTG.out _ HB9.out)) ?_; rintro e wA ⟨rfl, hba⟩; have HBA := Lib.hid (stepB HB9.out hba); clear hba))
                  refine anyS_take (i := 13) (v := ?_) (by kernel_rfl) rfl (by kernel_rfl) (by kernel_rfl) (by kernel_rfl) (fun _ _ _ h => h) (by kernel_rfl) (fun _ => rfl) ?_ ?_
                  rotate_left
                  · intro w' hS
                    obtain ⟨s1, s2⟩ := hS
                    go_simp
                    try with_reducible rfl
                  refine anyS_take (i := 14) (v := ?_) (by kernel_rfl) rfl (by kernel_rfl) (by kernel_rfl) (by kernel_rfl) (fun _ _ _ h => h) (by kernel_rfl) (fun _ => rfl) ?_ ?_
                  rotate_left
                  · intro w' hS
                    obtain ⟨s1, s2⟩ := hS
                    go_simp
                    try with_reducible rfl
                  refine anyS_take (i := 15) (v := ?_) (by kernel_rfl) rfl (by kernel_rfl) (by kernel_rfl) (by kernel_rfl) (fun _ _ _ h => h) (by kernel_rfl) (fun _ => rfl) ?_ ?_
                  rotate_left
                  · intro w' hS
                    obtain ⟨s1, s2⟩ := hS
                    go_simp
                    try with_reducible rfl
                  refine anyS_take (i := 16) (v := ?_) (by kernel_rfl) rfl (by kernel_rfl) (by kernel_rfl) (by kernel_rfl) (fun _ _ _ h => h) (by kernel_rfl) (fun _ => rfl) ?_ ?_
                  rotate_left
                  · intro w' hS
                    obtain ⟨s1, s2⟩ := hS
                    go_simp
                    try with_reducible rfl
                  refine anyS_take (i := 17) (v := ?_) (by kernel_rfl) rfl (by kernel_rfl) (by kernel_rfl) (by kernel_rfl) (fun _ _ _ h => h) (by kernel_rfl) (fun _ => rfl) ?_ ?_
                  rotate_left
                  · intro w' hS
                    obtain ⟨s1, s2⟩ := hS
                    go_simp
                    try with_reducible rfl
                  refine anyS_take (i := 18) (v := ?_) (by kernel_rfl) rfl (by kernel_rfl) (by kernel_rfl) (by kernel_rfl) (fun _ _ _ h => h) (by kernel_rfl) (fun _ => rfl) ?_ ?_
                  rotate_left
                  · intro w' hS
                    obtain ⟨s1, s2⟩ := hS
                    go_simp
                    try with_reducible rfl
                  refine anyS_take (i := 19) (v := ?_) (by kernel_rfl) rfl (by kernel_rfl) (by kernel_rfl) (by kernel_rfl) (fun _ _ _ h => h) (by kernel_rfl) (fun _ => rfl) ?_ ?_
                  rotate_left
                  · intro w' hS
                    obtain ⟨s1, s2⟩ := hS
                    go_simp
                    try with_reducible rfl
                  refine anyS_take (i := 20) (v := ?_) (by kernel_rfl) rfl (by kernel_rfl) (by kernel_rfl) (by kernel_rfl) (fun _ _ _ h => h) (by kernel_rfl) (fun _ => rfl) ?_ ?_
                  rotate_left
                  · intro w' hS
                    obtain ⟨s1, s2⟩ := hS
                    go_simp
                    try with_reducible rfl
                  refine anyS_take (i := 21) (v := ?_) (by kernel_rfl) rfl (by kernel_rfl) (by kernel_rfl) (by kernel_rfl) (fun _ _ _ h => h) (by kernel_rfl) (fun _ => rfl) ?_ ?_
                  rotate_left
                  · intro w' hS
                    obtain ⟨s1, s2⟩ := hS
                    go_simp
                    try with_reducible rfl
                  refine anyS_one (i := 22) (by kernel_rfl) rfl (HSF.out _ HBA.out) (fun K hK => ?_)
                  go_simp
                  gi_wp2_with ((refine ⟨trivial, ?_⟩; gi_at_call 13; refine CallsIn.mono (F := Fence.wide) (callsIn_wide.2 (HTG.out _ HBA.out)) ?_; rintro e wC ⟨rfl, hbc⟩; have HBC := Lib.hid (stepB HBA.out hbc); clear hbc))
                  refine anyS_take (i := 23) (v := ?_) (by kernel_rfl) rfl (by kernel_rfl) (by kernel_rfl) (by kernel_rfl) (fun _ _ _ h => h) (by kernel_rfl) (fun _ => rfl) ?_ ?_
                  rotate_left
                  · intro w' hS
                    obtain ⟨s1, s2⟩ := hS
                    go_simp
                    try with_reducible rfl
                  refine anyS_take (i := 24) (v := ?_) (by kernel_rfl) rfl (by kernel_rfl) (by kernel_rfl) (by kernel_rfl) (fun _ _ _ h => h) (by kernel_rfl) (fun _ => rfl) ?_ ?_
                  rotate_left
                  · intro w' hS
                    obtain ⟨s1, s2⟩ := hS
                    go_simp
                    try with_reducible rfl
                  refine anyS_take (i := 25) (v := ?_) (by kernel_rfl) rfl (by kernel_rfl) (by kernel_rfl) (by kernel_rfl) (fun _ _ _ h => h) (by kernel_rfl) (fun _ => rfl) ?_ ?_
                  rotate_left
                  · intro w' hS
                    obtain ⟨s1, s2⟩ := hS
                    go_simp
                    try with_reducible rfl
                  refine anyS_done (by kernel_rfl) (HSF.out _ HBC.out) ?_ _
                  refine NoPanic.normal ?_
                  go_wp2
                  go_meet
                  case rel => exact ⟨by rw [HDE.out, e0, d1]; rfl, HBC⟩
          case rest =>
            obtain ⟨rfl, HX⟩ := hcut
            obtain ⟨wX, rfl⟩ : ∃ wX, wX = wc := ⟨_, rfl⟩
            have HB11 := Lib.hid (HBr.out.trans ((stepB HB8.out HX.out).mono HBr.out.size))
            have HR11 := Lib.hid (own_later HRw.out (stepB HB8.out HX.out))
            clear HLV HTG HSF HLV2 HTG2 HDE
            cases hdd : deadS Bj.S y with
            | true =>
              have HNN := Lib.hid (show (ids.take (k + 1)).filter (deadS Bj.S) = (ids.take k).filter (deadS Bj.S) ++ [y] from by rw [HTK.out, List.filter_append, List.filter_cons, hdd]; simp)
              clear hdd
              as_aux_lemma =>
                have hfl : ((ids.take k).filter (deadS Bj.S)).length ≤ 900 := by have := List.length_filter_le (deadS Bj.S) (ids.take k); rw [List.length_take] at this; have := HIL.out; omega
                go_upto_region 16 with fail
                go_wp2_with (at_builtin; refine wpList_push rfl _ _ rfl rfl _ ((ids.take k).filter (deadS Bj.S)) y rfl HR11.out HB11.out rfl hfl ?_)
                · skip
                  intro v' w12 ho12 hb12
                  obtain ⟨xa, xc, rfl⟩ := own_form1 ho12
                  have HR12 := Lib.hid ho12
                  have HB12 := Lib.hid hb12
                  clear ho12 hb12
                  go_wp2
                  go_roundw
                  case rel =>
                    refine ⟨k + 1, xa, xc, by omega, by go_num, by rw [HNN.out, List.length_append]; rfl, ?_, HB12⟩
                    rw [HNN.out, List.length_append]; exact HR12
                  case measure => simp [intOf]; omega
            | false =>
              have HNN := Lib.hid (show (ids.take (k + 1)).filter (deadS Bj.S) = (ids.take k).filter (deadS Bj.S) from by rw [HTK.out, List.filter_append, List.filter_cons, hdd]; simp)
              clear hdd
              as_aux_lemma =>
                go_wp2
                go_roundw
                case rel =>
                  refine ⟨k + 1, va2, vc2, by omega, by go_num, by rw [HNN.out], ?_, HB11⟩
                  rw [HNN.out]; exact HR11
                case measure => simp [intOf]; omega
        · obtain rfl : k = ids.length := by omega
          have HEND := Lib.hid (show (ids.take ids.length).filter (deadS Bj.S) = diesL Bj.S from by rw [List.take_length]; exact HDF.out.symm)
          go_wp2
          go_meet
          case rel =>
            refine ⟨va2, vc2, by rw [HEND.out], ?_, HBr⟩
            rw [← HEND.out]; exact HRw
    case rest =>
      obtain ⟨va2, vc2, rfl, HRD0, HBD0⟩ := hcut
      obtain ⟨wD, rfl⟩ : ∃ wD, wD = wc := ⟨_, rfl⟩
      have HBoD := Lib.hid (stepB HB6.out HBD0.out)
      have HBJD := Lib.hid (HBJ.out.later HBoD.out)
      obtain ⟨ds, hds⟩ : ∃ ds, diesL Bj.S = ds := ⟨_, rfl⟩
      have HDS := Lib.hid hds
      have HDL := Lib.hid (show ds.length ≤ 800 from by rw [← hds]; exact Nat.le_trans (dies_len HBJ.out.wf HBJ.out.st.n1) HL8.out)
      rw [hds] at HRD0 ⊢
      clear hds HDF HO6 HIL HID
      obtain ⟨n, hn⟩ : ∃ n, Bj.T.sh.length = n := ⟨_, rfl⟩
      have HNN0 := Lib.hid hn
      obtain ⟨p, hp⟩ : ∃ p : Nat → Bool, (fun n : Nat => doomT Bj n) = p := ⟨_, rfl⟩
      have HPP := Lib.hid (show ∀ m : Nat, doomT Bj m = p m from fun m => by rw [← hp])
      have HLL := Lib.hid (show lostsL Bj = upTo p n from by unfold lostsL; rw [hp, hn])
      have HN4 := Lib.hid (show n ≤ 4 by rw [← hn]; exact HBJ.out.tm.n2)
      obtain ⟨tb, htb⟩ : ∃ tb, g2.tb = tb := ⟨_, rfl⟩
      have HTB := Lib.hid htb
      have HCT := Lib.hid (show ∀ w' : World, Below wD.heap.size wD w' → w'.cell? ⟨qb, 1, none⟩ = some (.pointer (some ⟨tb, 0, none⟩)) from fun w' hb => by
        have h := (HBJD.out.later hb).cells.2.1
        rw [HQ2.out, htb] at h
        exact h)
      clear hn hp htb
      have ktD := HCT.out wD (Below.refl _ _)
      go_upto_block 4 with fail
      go_cut [15, 20, 21, 23] from 55 to 241 (fun s15 _ _ _ wx => ∃ (va3 : Option Addr) (vc3 : Nat), s15 = .slice va3 (lostsL Bj).length vc3 ∧ Hid (wx.ownsRow wD.heap.size 3 1 (.slice va3 (lostsL Bj).length vc3) (lostsL Bj).length (intsV (lostsL Bj))) ∧ Hid (Below wD.heap.size wD wx))
      case first =>
        have hn4 : n ≤ 4 := HN4.out
        as_aux_lemma =>
          go_wp2_with fail
          go_loopw [15, 20] (fun v15 i wr => ∃ (k : Nat) (va3 : Option Addr) (vc3 : Nat), k ≤ n ∧ i = .int .i64 k ∧ v15 = .slice va3 (upTo p k).length vc3 ∧ Hid (wr.ownsRow wD.heap.size 3 1 (.slice va3 (upTo p k).length vc3) (upTo p k).length (intsV (upTo p k))) ∧ Hid (Below wD.heap.size wD wr)) (fun _ i _ => n - (intOf i).toNat)
          case atStart => exact ⟨0, none, 0, Nat.zero_le _, rfl, rfl, Lib.hid (World.ownsRow_nil _ _ _ _), Lib.hid (Below.refl _ _)⟩
          case round =>
            obtain ⟨k, va3, vc3, hk, rfl, rfl, HRw, HBr⟩ := hrel
            obtain ⟨wt, rfl⟩ : ∃ wt, wt = wr := ⟨_, rfl⟩
            have HBt := Lib.hid (HBJD.out.later HBr.out)
            have kt := HCT.out wt HBr.out
            have HLN2 := Lib.hid (tlen_any HBt.out.tm)
            rw [HTB.out, HNN0.out] at HLN2
            go_wp2_with fail
            refine HLN2.out.mono ?_
            rintro e w1 ⟨rfl, rfl⟩
            by_cases hlt : k < n
            · have d0 : decide ((k : Int) < n) = true := decide_eq_true (by omega)
              have d1 : (k : Int) < n := by omega
              have HLT := Lib.hid hlt
              have HLI := Lib.hid (tlife_any HBt.out.tm k)
              have HPO := Lib.hid (tpoison_any HBt.out.tm k)
              have HLO := Lib.hid (fun (w' : World) (hb : Below w1.heap.size w1 w') => tlost_any (HBt.out.later hb).tm k)
              have HIS := Lib.hid (tin_any HBt.out.tm k)
              have HDO := Lib.hid (fun (w' : World) (hb : Below w1.heap.size w1 w') => doomed_any (HBt.out.later hb) k)
              have HDR := Lib.hid (fun (w' : World) (hb : Below w1.heap.size w1 w') (y : Int) => dry_any (HBt.out.later hb) y)
              have HKT := Lib.hid (fun (w' : World) (hb : Below w1.heap.size w1 w') => HCT.out w' (stepB HBr.out hb))
              have HSL := Lib.hid (seatsT_len HBt.out.tm k)
              have HDQ := Lib.hid ((HPP.out k).symm.trans (doom_eq Bj k))
              rw [HTB.out] at HLI HPO HLO HIS
              rw [HQ2.out] at HDO HDR
              obtain ⟨li, hli⟩ : ∃ li, lifeT Bj.T k = li := ⟨_, rfl⟩
              obtain ⟨po, hpo⟩ : ∃ po, poisonT Bj.T k = po := ⟨_, rfl⟩
              obtain ⟨lo, hlo⟩ : ∃ lo, lostT Bj.T k = lo := ⟨_, rfl⟩
              have HLF := Lib.hid hlo
              obtain ⟨L4, hL4⟩ : ∃ L4, seatsT Bj.T k = L4 := ⟨_, rfl⟩
              have HPA := Lib.hid (show parchT Bj k = L4.any (dryT Bj) from by unfold parchT; rw [hL4])
              rw [hli] at HLI HDQ
              rw [hpo] at HPO HDQ
              rw [hlo] at HLO HDQ
              rw [hL4] at HIS HSL
              rw [HPA.out] at HDQ
              have HDP := Lib.hid (HPP.out k)
              rw [HDP.out] at HDO
              clear hli hpo hlo hL4
              go_upto_region 21 with fail
              go_cut [21] from 107 to 177 (fun s21 wx => s21 = .bool (decide (li ≤ 0) || decide (10 ≤ po)) ∧ wx = w1)
              case first =>
                by_cases h1 : li ≤ 0
                · have d2 : decide (li ≤ 0) = true := decide_eq_true h1
                  go_wp2_with fail
                  refine HLI.out.mono ?_
                  rintro e w2 ⟨rfl, rfl⟩
                  go_wp2
                  go_meet
                  case rel => exact ⟨by rw [d2]; rfl, rfl⟩
                · have d2 : decide (li ≤ 0) = false := decide_eq_false h1
                  go_wp2_with fail
                  refine HLI.out.mono ?_
                  rintro e w2 ⟨rfl, rfl⟩
                  go_wp2_with fail
                  refine HPO.out.mono ?_
                  rintro e w2 ⟨rfl, rfl⟩
                  go_wp2
                  go_meet
                  case rel => exact ⟨by rw [d2]; rfl, rfl⟩
              case rest =>
                obtain ⟨rfl, rfl⟩ := hcut
                obtain ⟨o1, ho1⟩ : ∃ o1, (decide (li ≤ 0) || decide (10 ≤ po)) = o1 := ⟨_, rfl⟩
                rw [ho1] at HDQ ⊢
                obtain ⟨w1, rfl⟩ : ∃ w1, w1 = wc := ⟨_, rfl⟩
                clear ho1 HLI HPO HLN2
                go_wp2_with fail
                refine HIS.out.mono ?_
                rintro e w2 ⟨sv, rfl, hso, hb2⟩
                obtain ⟨sa, sc, rfl⟩ := own_form1 hso
                have HSO := Lib.hid hso
                have HB2 := Lib.hid hb2
                have hsl : L4.length ≤ 1000 := by have := HSL.out; omega
                clear hso hb2 HIS
                dsimp only
                go_upto_block 6 with fail
                go_cut [21, 23] from 107 to 177 (fun s21 _ wx => s21 = .bool (o1 || L4.any (dryT Bj)) ∧ Hid (Below w1.heap.size w1 wx))
                case first =>
                  go_wp2_with fail
                  go_loopw [21, 139] (fun v21 i wx => ∃ m : Nat, m ≤ L4.length ∧ i = .int .i64 m ∧ v21 = .bool (o1 || (L4.take m).any (dryT Bj)) ∧ Hid (Below w2.heap.size w2 wx)) (fun _ i _ => L4.length - (intOf i).toNat)
                  case atStart => exact ⟨0, Nat.zero_le _, rfl, by simp, Lib.hid (Below.refl _ _)⟩
                  case round =>
                    obtain ⟨m, hm, rfl, rfl, HBm⟩ := hrel
                    by_cases hlm : m < L4.length
                    · have d3 : decide ((m : Int) < L4.length) = true := decide_eq_true (by omega)
                      obtain ⟨r, off, hr, _, c0⟩ := (own_ints (own_later HSO.out HBm.out)).at m hlm
                      have htm := take_last L4 m hlm
                      obtain ⟨y, hy⟩ : ∃ y, L4[m] = y := ⟨_, rfl⟩
                      rw [hy] at c0 htm
                      have HTM := Lib.hid (show (L4.take (m + 1)).any (dryT Bj) = ((L4.take m).any (dryT Bj) || dryT Bj y) from by rw [htm, List.any_append]; simp)
                      have HDY := Lib.hid (HDR.out wr (stepB HB2.out HBm.out) y)
                      clear hy htm
                      subst hr
                      cases hz : (o1 || (L4.take m).any (dryT Bj)) with
                      | true =>
                        have HZ := Lib.hid hz
                        clear hz
                        go_wp2
                        go_roundw
                        case rel => exact ⟨m + 1, by omega, by go_num, by rw [HTM.out, ← Bool.or_assoc, HZ.out]; rfl, HBm⟩
                        case measure => simp [intOf]; omega
                      | false =>
                        have HZ := Lib.hid hz
                        clear hz
                        go_wp2_with fail
                        refine HDY.out.mono ?_
                        rintro e w5 ⟨rfl, rfl⟩
                        go_wp2
                        go_roundw
                        case rel => exact ⟨m + 1, by omega, by go_num, by rw [HTM.out, ← Bool.or_assoc, HZ.out]; rfl, HBm⟩
                        case measure => simp [intOf]; omega
                    · obtain rfl : m = L4.length := by omega
                      go_wp2
                      go_meet
                      case rel => exact ⟨by rw [List.take_length], Lib.hid (stepB HB2.out HBm.out)⟩
                case rest =>
                  obtain ⟨rfl, HB5⟩ := hcut
                  obtain ⟨w5, rfl⟩ : ∃ w5, w5 = wc := ⟨_, rfl⟩
                  obtain ⟨out, hout⟩ : ∃ out, (o1 || L4.any (dryT Bj)) = out := ⟨_, rfl⟩
                  rw [hout] at HDQ ⊢
                  have kt5 := HKT.out w5 HB5.out
                  have HL5 := Lib.hid (HLO.out w5 HB5.out)
                  have HD5 := Lib.hid (HDO.out w5 HB5.out)
                  clear hout HB2 HSO
                  cases out with
                  | false =>
                    have hpk : p k = false := HDQ.out
                    have HNN := Lib.hid (upTo_no hpk)
                    rw [hpk] at HD5
                    clear hpk
                    have HB6' := Lib.hid (HBr.out.trans (HB5.out.mono HBr.out.size))
                    have HR6 := Lib.hid (own_later HRw.out HB5.out)
                    go_wp2_with fail
                    refine HD5.out.mono ?_
                    rintro e w6 ⟨rfl, hb6⟩
                    have HB7 := Lib.hid (HB6'.out.trans (hb6.mono HB6'.out.size))
                    have HR7 := Lib.hid (own_later HR6.out hb6)
                    clear hb6
                    go_wp2
                    go_roundw
                    case rel =>
                      refine ⟨k + 1, va3, vc3, by have := HLT.out; omega, by go_num, by rw [HNN.out], ?_, HB7⟩
                      rw [HNN.out]; exact HR7
                    case measure => have := HLT.out; simp [intOf]; omega
                  | true =>
                    cases lo with
                    | true =>
                      have hpk : p k = false := HDQ.out
                      have HNN := Lib.hid (upTo_no hpk)
                      rw [hpk] at HD5
                      clear hpk
                      have HB6' := Lib.hid (HBr.out.trans (HB5.out.mono HBr.out.size))
                      have HR6 := Lib.hid (own_later HRw.out HB5.out)
                      go_wp2_with fail
                      refine HL5.out.mono ?_
                      rintro e w6 ⟨rfl, rfl⟩
                      go_wp2_with fail
                      refine HD5.out.mono ?_
                      rintro e w7 ⟨rfl, hb7⟩
                      have HB7 := Lib.hid (HB6'.out.trans (hb7.mono HB6'.out.size))
                      have HR7 := Lib.hid (own_later HR6.out hb7)
                      have HL7 := Lib.hid (HLO.out w7 (stepB HB5.out hb7))
                      have kt7 := HKT.out w7 (stepB HB5.out hb7)
                      clear hb7
                      go_wp2_with fail
                      refine HL7.out.mono ?_
                      rintro e w8 ⟨rfl, rfl⟩
                      go_wp2
                      go_roundw
                      case rel =>
                        refine ⟨k + 1, va3, vc3, by have := HLT.out; omega, by go_num, by rw [HNN.out], ?_, HB7⟩
                        rw [HNN.out]; exact HR7
                      case measure => have := HLT.out; simp [intOf]; omega
                    | false =>
                      have hpk : p k = true := HDQ.out
                      have HPK := Lib.hid ((HDP.out).trans hpk)
                      have HNN := Lib.hid (upTo_yes hpk)
                      rw [hpk] at HDO
                      clear hpk HD5
                      have HB6' := Lib.hid (HBr.out.trans (HB5.out.mono HBr.out.size))
                      have HR6 := Lib.hid (own_later HRw.out HB5.out)
                      have hfl : (upTo p k).length ≤ 900 := by have := upTo_len p k; have := HN4.out; omega
                      go_wp2_with fail
                      refine HL5.out.mono ?_
                      rintro e w6 ⟨rfl, rfl⟩
                      go_upto_region 28 with fail
                      go_wp2_with (at_builtin; refine wpList_push rfl _ _ rfl rfl _ (upTo p k) (k : Int) rfl HR6.out HB6'.out rfl hfl ?_)
                      · skip
                        intro v' w8 ho8 hb8
                        obtain ⟨xa, xc, rfl⟩ := own_form1 ho8
                        have HR8 := Lib.hid ho8
                        have HB8 := Lib.hid hb8
                        have HBJ8 := Lib.hid (HBJD.out.later hb8)
                        have HD8 := Lib.hid (doomed_any HBJ8.out k)
                        have HL8' := Lib.hid (fun (w' : World) (hb : Below w8.heap.size w8 w') => tlost_any (HBJ8.out.later hb).tm k)
                        rw [HQ2.out, HPK.out] at HD8
                        rw [HTB.out, HLF.out] at HL8'
                        clear ho8 hb8
                        go_wp2_with fail
                        refine HD8.out.mono ?_
                        rintro e w9 ⟨rfl, hb9⟩
                        have HB9 := Lib.hid (HB8.out.trans (hb9.mono HB8.out.size))
                        have HR9 := Lib.hid (own_later HR8.out hb9)
                        have HL9 := Lib.hid (HL8'.out w9 hb9)
                        have kt9 := HCT.out w9 HB9.out
                        clear hb9
                        go_wp2_with fail
                        refine HL9.out.mono ?_
                        rintro e wA ⟨rfl, rfl⟩
                        go_wp2
                        go_roundw
                        case rel =>
                          refine ⟨k + 1, xa, xc, by have := HLT.out; omega, by go_num, by rw [HNN.out, List.length_append]; rfl, ?_, HB9⟩
                          rw [HNN.out, List.length_append]; exact HR9
                        case measure => have := HLT.out; simp [intOf]; omega
            · obtain rfl : k = n := by omega
              have d0 : decide ((k : Int) < k) = false := decide_eq_false (by omega)
              go_wp2
              go_meet
              case rel =>
                refine ⟨va3, vc3, by rw [HLL.out], ?_, HBr⟩
                rw [HLL.out]; exact HRw
      case rest =>
        obtain ⟨va3, vc3, rfl, HRL0, HBL0⟩ := hcut
        obtain ⟨wL, rfl⟩ : ∃ wL, wL = wc := ⟨_, rfl⟩
        have HBoL := Lib.hid (stepB HBoD.out HBL0.out)
        obtain ⟨xs, hxs⟩ : ∃ xs, lostsL Bj = xs := ⟨_, rfl⟩
        have HXS := Lib.hid hxs
        have hxl : xs.length ≤ 1000 := by rw [← hxs]; exact Nat.le_trans (upTo_len _ _) (by have := HBJ.out.tm.n2; omega)
        have hdl : ds.length ≤ 1000 := by have := HDL.out; omega
        rw [hxs] at HRL0 ⊢
        have HRL := Lib.hid (show RunsAt V wL lb ls gb b2 k2 g2 m2 Bj Lj (.slice a1 DJ.length n1) (.slice a2 XJ.length n2) (.slice va2 ds.length vc2) (.slice va3 xs.length vc3) DJ XJ ds xs from by
          have h := HRN.out.turn (HRN.out.bo.later HBoL.out) (TurnedO.of_below HBoL.out)
          have hlt : ∀ k, own2 g2 b2 m2 k → k < wo.heap.size := fun k hk => HRN.out.bo.ownLt hk
          have s1 := HRN.out.tu.size
          have s2 := HB6.out.size
          have s3 := HBD0.out.size
          exact ⟨h.bo, h.tu, h.r1, h.r2, rep_new (A := w6) (own_later HRD0.out HBL0.out) (by omega) (fun k hk => by have := hlt k hk; omega), rep_new (A := wD) HRL0.out (by omega) (fun k hk => by have := hlt k hk; omega)⟩)
        have HSS := Lib.hid (show (decide (0 < ds.length + xs.length) || drys Bj 4) = !stableT Bj from by
          rw [stable_some HBJ.out HS4.out, HDS.out, hxs, Bool.not_not])
        obtain ⟨zz, hzz⟩ : ∃ zz, decide (0 < ds.length + xs.length) = zz := ⟨_, rfl⟩
        have HZZ := Lib.hid (show decide ((0 : Int) < (ds.length : Int) + (xs.length : Int)) = zz from by rw [← hzz]; exact decide_eq_decide.2 (by omega))
        rw [hzz] at HSS
        clear hzz hxs HRD0 HBD0 HRL0 HBL0 HLL HPP HCT HBJD ktD
        go_upto_block 8 with fail
        go_cut [24, 25] from 55 to 241 (fun s24 _ wx => s24 = .bool (!stableT Bj) ∧ wx = wL)
        case first =>
          as_aux_lemma =>
            go_wp2_with fail
            go_loop [24, 25] (fun v24 i => ∃ k : Nat, k ≤ 4 ∧ i = .int .i64 k ∧ v24 = .bool (zz || drys Bj k)) (fun _ i => 4 - (intOf i).toNat)
            case atStart => exact ⟨0, by omega, rfl, by rw [show drys Bj 0 = false from rfl, Bool.or_false, ← HZZ.out]⟩
            case round =>
              obtain ⟨k, hk, rfl, rfl⟩ := hrel
              by_cases hlt : k < 4
              · have d0 : decide ((k : Int) < 4) = true := decide_eq_true (by omega)
                have d1 : (k : Int) < 4 := by omega
                have HDY := Lib.hid (dry_any HRL.out.bo.bd (k : Int))
                rw [HQ2.out] at HDY
                have HSU := Lib.hid (drys_succ Bj k)
                cases hz : (zz || drys Bj k) with
                | true =>
                  have HZ := Lib.hid hz
                  clear hz
                  go_wp2
                  go_round
                  case rel => exact ⟨k + 1, by omega, by go_num, by rw [HSU.out, ← Bool.or_assoc, HZ.out]; rfl⟩
                  case measure => simp [intOf]; omega
                | false =>
                  have HZ := Lib.hid hz
                  clear hz
                  go_wp2_with fail
                  refine HDY.out.mono ?_
                  rintro e w5 ⟨rfl, rfl⟩
                  go_wp2
                  go_round
                  case rel => exact ⟨k + 1, by omega, by go_num, by rw [HSU.out, ← Bool.or_assoc, HZ.out]; rfl⟩
                  case measure => simp [intOf]; omega
              · obtain rfl : k = 4 := by omega
                go_wp2
                go_meet
                case rel => exact ⟨by rw [HSS.out], rfl⟩
        case rest =>
          obtain ⟨rfl, rfl⟩ := hcut
          obtain ⟨wL, rfl⟩ : ∃ wL, wL = wc := ⟨_, rfl⟩
          have HSBL := Lib.hid (stable_any HRL.out.bo.bd)
          rw [HQ2.out] at HSBL
          clear HSS HZZ
          cases hz : stableT Bj with
          | true =>
            have HZT := Lib.hid hz
            have HZT2 := Lib.hid hz
            rw [hz] at HSBL
            clear hz
            rw [Bool.not_true]
            go_wp2_with fail
            refine HSBL.out.mono ?_
            rintro e wL2 ⟨rfl, hbL⟩
            have HRL2 := Lib.hid (HRL.out.turn (HRL.out.bo.later hbL) (TurnedO.of_below hbL))
            clear hbL HRL HSBL
            obtain ⟨wL, rfl⟩ : ∃ wL, wL = wL2 := ⟨_, rfl⟩
            have HRL := HRL2
            as_aux_lemma =>
              have HV := Lib.hid (show Bj = runB B ∧ Lj = runK B b [] ∧ DJ = runD B ∧ XJ = runX B ∧ j = runN B from by
                rw [← HBE.out, ← HLE.out, ← HDJ.out, ← HXJ.out]
                have hzz := HZT.out
                rw [← HBE.out] at hzz
                unfold runB runK runD runX runN
                rcases (show j = 0 ∨ j = 1 by omega) with rfl | rfl
                · rw [show stableT B = true from hzz]
                  exact ⟨rfl, rfl, rfl, rfl, rfl⟩
                · rw [HJ.out.1 rfl]
                  exact ⟨rfl, rfl, rfl, rfl, rfl⟩)
              have hfar := BothAt.far HP1.out HRL.out.tu (fun k h1 h2 => HAP.out k h2 h1)
              have HFA := Lib.hid hfar
              have HRU := Lib.hid (run_any hfar.1 HLN.out.1 (by decide) b)
              rw [HQA.out] at HRU
              have cb := (HIX.out wL (HRL.out.tu.below HBV.out (fun k hk => (HLT2.out k hk).1))).2.1
              have HBL := Lib.hid (HRL.out.tu.below HBV.out (fun k hk => (HLT2.out k hk).1))
              clear hfar HZT HJ HBE HLE HDJ HXJ
              go_wp2_with fail
              refine HRU.out.mono ?_
              rintro e w7 ⟨r1, r2, g7, m7, rfl, hbo7, hq7, ht7, hd7, hx7⟩
              rw [← HV.out.2.2.2.2]
              obtain ⟨ra1, rc1, rfl⟩ := own_form1 hd7.row
              obtain ⟨ra2, rc2, rfl⟩ := own_form1 hx7.row
              rw [← HV.out.2.2.1] at hd7 ⊢
              rw [← HV.out.2.2.2.1] at hx7 ⊢
              rw [← HV.out.1, ← HV.out.2.1] at hbo7
              have hfl7 := BothAt.far HRL.out.bo ht7 (fun k h1 h2 => HFA.out.2 k h2 h1)
              have hlt7 : ∀ k, own2 ga b1 k1 k → k < V.heap.size := fun k hk => (HLT1.out k hk).2
              have HB7 := Lib.hid (show Below W.heap.size W w7 from ht7.below HBL.out (fun k hk => (HLT1.out k hk).1))
              have HIN := Lib.hid (show IntsAt w7 (.slice ra1 DJ.length rc1) DJ ∧ IntsAt w7 (.slice ra2 XJ.length rc2) XJ ∧ IntsAt w7 (.slice a1 DJ.length n1) DJ ∧ IntsAt w7 (.slice a2 XJ.length n2) XJ from ⟨own_ints hd7.row, own_ints hx7.row, own_ints (own_keepS HRL.out.r1.row (fun k e => ht7.block k (World.ownsRow.lt HRL.out.r1.row k e).2 (fun h => by have h1 := (World.ownsRow.lt HRL.out.r1.row k e).1; have h2 := hlt7 k h; omega))), own_ints (own_keepS HRL.out.r2.row (fun k e => ht7.block k (World.ownsRow.lt HRL.out.r2.row k e).2 (fun h => by have h1 := (World.ownsRow.lt HRL.out.r2.row k e).1; have h2 := hlt7 k h; omega)))⟩)
              have HA7 := Lib.hid hbo7
              have HC7 := Lib.hid hfl7.1
              have HAP7 := Lib.hid hfl7.2
              have HQ7 := Lib.hid (hq7.trans HQA.out)
              have HLO7 := Lib.hid (show ∀ k, own2 g7 b1 m7 k → W.heap.size ≤ k from fun k hk => by
                by_cases h : k < wL.heap.size
                · exact (HLT1.out k (ht7.own k h hk)).1
                · have := HBL.out.size
                  omega)
              have HST := Lib.hid (show stableT Bj = true from HZT2.out)
              have HOL := Lib.hid (show Bj.S.objs.length ≤ 800 from HL8.out)
              have hdl : DJ.length ≤ 1000 := by
                rw [HV.out.2.2.1]
                unfold runD
                split
                · simp
                · exact Nat.le_trans (dies_len HFA.out.1.bd.wf HFA.out.1.bd.st.n1) (by have := HLN.out.1; omega)
              have hxl : XJ.length ≤ 1000 := by
                rw [HV.out.2.2.2.1]
                unfold runX
                split
                · simp
                · exact Nat.le_trans (upTo_len _ _) (by have := HFA.out.1.bd.tm.n2; omega)
              have HLJ := Lib.hid (show Lj.length ≤ 8 by rw [HV.out.2.1]; exact runK_len (by decide))
              have HJ1 := Lib.hid hj
              clear hbo7 hq7 ht7 hd7 hx7 hfl7 hlt7 HRU HFA HV cb
              dsimp only
              have hb8 := below_new w7 (.cells #[.slice ra1 DJ.length rc1, .slice ra2 XJ.length rc2, .int .i64 j] 54)
              have hrow := heap_alloc_new w7 (.cells #[.slice ra1 DJ.length rc1, .slice ra2 XJ.length rc2, .int .i64 j] 54)
              go_upto_region 54 with fail
              obtain ⟨w8, hw8⟩ : ∃ w8, w7.alloc (.cells #[.slice ra1 DJ.length rc1, .slice ra2 XJ.length rc2, .int .i64 j] 54) = w8 := ⟨_, rfl⟩
              obtain ⟨q30, hq30⟩ : ∃ q30, w7.heap.size = q30 := ⟨_, rfl⟩
              rw [hw8] at hb8 hrow ⊢
              rw [hq30] at hrow ⊢
              have HB8 := Lib.hid hb8
              have HRW := Lib.hid (fun (w' : World) (hb : Below w8.heap.size w8 w') => show w'.cell? ⟨q30, 0, none⟩ = some (.slice ra1 DJ.length rc1) ∧ w'.cell? ⟨q30, 1, none⟩ = some (.slice ra2 XJ.length rc2) ∧ w'.cell? ⟨q30, 2, none⟩ = some (.int .i64 j) from ⟨cell_stays hb (cell_of_row w8 q30 0 _ _ (0, 0) hrow), cell_stays hb (cell_of_row w8 q30 1 _ _ (0, 0) hrow), cell_stays hb (cell_of_row w8 q30 2 _ _ (0, 0) hrow)⟩)
              have HR30 := Lib.hid hrow
              have HQ30 := Lib.hid hq30
              obtain ⟨k0, k1', k2'⟩ := HRW.out w8 (Below.refl _ _)
              clear hb8 hrow hw8 hq30
              go_wp2_with fail
              refine (ints_no_at (HIN.out.1.later HB8.out) (HIN.out.2.2.1.later HB8.out) hdl rfl).mono ?_
              rintro e w9 ⟨rfl, hb9⟩
              have HB9 := Lib.hid hb9
              obtain ⟨k0, k1', k2'⟩ := HRW.out w9 HB9.out
              clear hb9
              go_wp2_with fail
              refine (ints_no_at (HIN.out.2.1.later (stepB HB8.out HB9.out)) (HIN.out.2.2.2.later (stepB HB8.out HB9.out)) hxl rfl).mono ?_
              rintro e wA ⟨rfl, hbA⟩
              have HBA := Lib.hid (stepB HB9.out hbA)
              obtain ⟨k0, k1', k2'⟩ := HRW.out wA HBA.out
              clear hbA
              have HSM := Lib.hid (bsame_any (S := Bj.S) (T := Bj.T) (D := Bj.D) (E := Bj.D) (HA7.out.bd.later (stepB HB8.out HBA.out)) (HC7.out.bd.later (stepB HB8.out HBA.out)))
              rw [eqD_self, HQ7.out, HQ2.out] at HSM
              go_wp2_with fail
              refine HSM.out.mono ?_
              rintro e wB ⟨rfl, hbB⟩
              have HBB := Lib.hid (stepB HBA.out hbB)
              clear hbB HSM
              have HSK := Lib.hid (same_stk (HA7.out.sk.later (stepB HB8.out HBB.out)) (HC7.out.sk.later (stepB HB8.out HBB.out)) (by have := HLJ.out; omega))
              rw [decide_eq_true rfl] at HSK
              go_wp2_with fail
              refine HSK.out.mono ?_
              rintro e wC ⟨rfl, nC, hwC⟩
              have HBC := Lib.hid (show Below w8.heap.size w8 wC from by rw [hwC]; exact below_drewN HBB.out nC)
              clear hwC HSK
              have HSB2 := Lib.hid (stable_any (HA7.out.bd.later (stepB HB8.out HBC.out)))
              rw [HST.out, HQ7.out] at HSB2
              go_wp2_with fail
              refine HSB2.out.mono ?_
              rintro e wE ⟨rfl, hbE⟩
              have HBE2 := Lib.hid (stepB HBC.out hbE)
              clear hbE HSB2
              have HAE := Lib.hid (HA7.out.later (stepB HB8.out HBE2.out))
              have HRU2 := Lib.hid (run_any HAE.out HOL.out HLJ.out b)
              rw [HQ7.out] at HRU2
              have cb := (HIX.out wE (stepB HB7.out (stepB HB8.out HBE2.out))).2.1
              go_upto_region 56 with fail
              go_wp2_with fail
              refine HRU2.out.mono ?_
              rintro e wF ⟨r3, r4, g9, m9, rfl, hbo9, hq9, ht9, hd9, hx9⟩
              unfold runB at hbo9
              unfold runD at hd9
              unfold runX at hx9
              unfold runN
              rw [HST.out, if_pos rfl] at hbo9 hd9 hx9 ⊢
              obtain ⟨rb1, rd1, rfl⟩ := own_form1 hd9.row
              obtain ⟨rb2, rd2, rfl⟩ := own_form1 hx9.row
              have hlt9 : ∀ k, own2 g7 b1 m7 k → k < w7.heap.size := fun k hk => HA7.out.ownLt hk
              have hk30 : wF.heap[q30]? = some (.cells #[.slice ra1 DJ.length rc1, .slice ra2 XJ.length rc2, .int .i64 j] 54 (0, 0)) := by
                have h1 := (HBE2.out.block _ (Array.getElem?_eq_some_iff.1 HR30.out).1).trans HR30.out
                exact (ht9.block _ (Array.getElem?_eq_some_iff.1 h1).1 (fun e => by have := hlt9 _ e; have := HQ30.out; omega)).trans h1
              have HCF := Lib.hid (BothAt.far (HC7.out.later (stepB HB8.out HBE2.out)) ht9 (fun k h1 h2 => HAP7.out k h1 h2))
              have HAF := Lib.hid hbo9.bd
              have HQ9 := Lib.hid (hq9.trans HQ7.out)
              have HBF := Lib.hid (show Below W.heap.size W wF from ht9.below (stepB HB7.out (stepB HB8.out HBE2.out)) HLO7.out)
              have z0 := cell_of_row wF q30 0 _ _ (0, 0) hk30
              have z1 := cell_of_row wF q30 1 _ _ (0, 0) hk30
              have z2 := cell_of_row wF q30 2 _ _ (0, 0) hk30
              have fz0 := frozen_of_row wF q30 0 _ _ hk30
              have fz1 := frozen_of_row wF q30 1 _ _ hk30
              have fz2 := frozen_of_row wF q30 2 _ _ hk30
              have HNA := Lib.hid (show ∀ k, g9.own k → k ≠ q30 from fun k hk e => by
                have h1 := HQ30.out
                by_cases h : k < wE.heap.size
                · have := hlt9 k (ht9.own k h (.inl hk))
                  omega
                · have := HB8.out.size
                  have := HBE2.out.size
                  have h5 := (Array.getElem?_eq_some_iff.1 HR30.out).1
                  omega)
              have HNC := Lib.hid (show ∀ k, g2.own k → k ≠ q30 from fun k hk e => by
                have := HC7.out.bd.ownLt hk
                have := HQ30.out
                omega)
              clear hbo9 hq9 ht9 hd9 hx9 hlt9 HRU2 cb
              dsimp only
              have hkG : ∀ k, k ≠ q30 → (((wF.setCell ⟨q30, 0, none⟩ (.slice rb1 0 rd1)).setCell ⟨q30, 1, none⟩ (.slice rb2 0 rd2)).setCell ⟨q30, 2, none⟩ (.int .i64 0)).heap[k]? = wF.heap[k]? := fun k hk => by rw [heap_setCell_other _ ⟨q30, 2, none⟩ k _ hk, heap_setCell_other _ ⟨q30, 1, none⟩ k _ hk, heap_setCell_other _ ⟨q30, 0, none⟩ k _ hk]
              have hsG : (((wF.setCell ⟨q30, 0, none⟩ (.slice rb1 0 rd1)).setCell ⟨q30, 1, none⟩ (.slice rb2 0 rd2)).setCell ⟨q30, 2, none⟩ (.int .i64 0)).heap.size = wF.heap.size := by simp
              have hrG := rep2 (.int .i64 0) (rep1 (.slice rb2 0 rd2) (rep0 (.slice rb1 0 rd1) hk30))
              have hge : W.heap.size ≤ q30 := by have := HB7.out.size; have := HQ30.out; omega
              have hbG : Below W.heap.size W (((wF.setCell ⟨q30, 0, none⟩ (.slice rb1 0 rd1)).setCell ⟨q30, 1, none⟩ (.slice rb2 0 rd2)).setCell ⟨q30, 2, none⟩ (.int .i64 0)) := ((HBF.out.setCell hge _).setCell hge _).setCell hge _
              clear hk30
              go_upto_region 57 with fail
              obtain ⟨wG, hwG⟩ : ∃ wG, (((wF.setCell ⟨q30, 0, none⟩ (.slice rb1 0 rd1)).setCell ⟨q30, 1, none⟩ (.slice rb2 0 rd2)).setCell ⟨q30, 2, none⟩ (.int .i64 0)) = wG := ⟨_, rfl⟩
              rw [hwG] at hkG hsG hrG hbG ⊢
              have g0 : wG.cell? ⟨q30, 0, none⟩ = some (.slice rb1 0 rd1) := cell_of_row wG q30 0 _ _ (0, 0) hrG
              have g1 : wG.cell? ⟨q30, 1, none⟩ = some (.slice rb2 0 rd2) := cell_of_row wG q30 1 _ _ (0, 0) hrG
              have g2' : wG.cell? ⟨q30, 2, none⟩ = some (.int .i64 0) := cell_of_row wG q30 2 _ _ (0, 0) hrG
              have HSN := Lib.hid (bsame_any (S := Bj.S) (T := Bj.T) (D := Bj.D) (E := Bj.D) (HAF.out.kept (by omega) (fun k hk => hkG k (HNA.out k hk))) (HCF.out.1.bd.kept (by omega) (fun k hk => hkG k (HNC.out k hk))))
              rw [eqD_self, HQ9.out, HQ2.out] at HSN
              have HBG := Lib.hid hbG
              clear hkG hsG hrG hbG hwG hge z0 z1 z2 fz0 fz1 fz2
              go_wp2_with fail
              refine HSN.out.mono ?_
              rintro e wH ⟨rfl, hbH⟩
              have HBH := Lib.hid (stepB HB0.out (stepB HBG.out hbH))
              clear hbH
              go_wp2
              go_ret
              exact ⟨rfl, HBH.out⟩
          | false =>
            obtain rfl : j = 0 := by
              rcases (show j = 0 ∨ j = 1 by omega) with rfl | rfl
              · rfl
              · rw [← HBE.out, show stB B 1 = roundB B from rfl, HSR.out] at hz
                cases hz
            obtain ⟨rfl, rfl, rfl, rfl⟩ := HJ.out.2 rfl
            have hD0 : DJ = [] := HDJ.out.symm
            have hX0 : XJ = [] := HXJ.out.symm
            subst hD0 hX0
            have HNS := Lib.hid (show stableT B = false from by rw [show Bj = B from HBE.out.symm] at hz; exact hz)
            rw [hz] at HSBL
            clear hz
            rw [Bool.not_false]
            go_wp2_with fail
            refine HSBL.out.mono ?_
            rintro e w8 ⟨rfl, hb8⟩
            have HR8 : Hid (RunsAt V w8 lb ls gb b2 k2 g2 m2 Bj Lj (.slice none 0 0) (.slice none 0 0) (.slice va2 ds.length vc2) (.slice va3 xs.length vc3) [] [] ds xs) := Lib.hid (HRL.out.turn (HRL.out.bo.later hb8) (TurnedO.of_below hb8))
            have HHS := Lib.hid (show ∀ i ∈ ds, hasS Bj.S i from fun i hi => dies_has HBJ.out.wf HBJ.out.st.n1 i (by rw [HDS.out]; exact hi))
            clear hb8 HRL HSBL
            go_upto_block 10 with fail
            go_cut [27] from 55 to 241 (fun _ wx => ∃ g3 : GhostB, Hid (RunsAt V wx lb ls gb b2 k2 g3 m2 ⟨buryS Bj.S ds, Bj.T, Bj.D⟩ Lj (.slice none 0 0) (.slice none 0 0) (.slice va2 ds.length vc2) (.slice va3 xs.length vc3) [] [] ds xs) ∧ Hid (g3.q = qb))
            case first =>
              as_aux_lemma =>
                go_wp2_with fail
                go_loopw [202] (fun i wr => ∃ (k : Nat) (g3 : GhostB), k ≤ ds.length ∧ i = .int .i64 k ∧ Hid (RunsAt V wr lb ls gb b2 k2 g3 m2 ⟨buryS Bj.S (ds.take k), Bj.T, Bj.D⟩ Lj (.slice none 0 0) (.slice none 0 0) (.slice va2 ds.length vc2) (.slice va3 xs.length vc3) [] [] ds xs) ∧ Hid (g3.q = qb)) (fun i _ => ds.length - (intOf i).toNat)
                case atStart => exact ⟨0, g2, Nat.zero_le _, rfl, HR8, HQ2⟩
                case round =>
                  obtain ⟨k, g3, hk, rfl, HRw, HQ3⟩ := hrel
                  by_cases hlt : k < ds.length
                  · have d0 : decide ((k : Int) < ds.length) = true := decide_eq_true (by omega)
                    obtain ⟨r, off, hr, _, c0⟩ := (own_ints HRw.out.r3.row).at k hlt
                    have htk := take_last ds k hlt
                    have hhs := HHS.out _ (List.getElem_mem hlt)
                    obtain ⟨y, hy⟩ : ∃ y, ds[k] = y := ⟨_, rfl⟩
                    rw [hy] at c0 htk hhs
                    have HTK := Lib.hid htk
                    have HMV := Lib.hid (move_bd HRw.out.bo.bd y ((keeps_bury Bj.S (ds.take k)).has hhs) 5 (by decide) (by decide))
                    have cq := HRw.out.bo.bd.cells.1
                    rw [HQ3.out] at cq
                    obtain ⟨sb3, hsb3⟩ : ∃ sb3, g3.b = sb3 := ⟨_, rfl⟩
                    rw [hsb3] at cq HMV
                    clear hy htk hhs hsb3
                    subst hr
                    go_wp2_with fail
                    refine HMV.out.mono ?_
                    rintro e w5 ⟨rfl, g5, hbd5, ht5, hq5⟩
                    have hbo := HRw.out.bo.board hbd5 ht5.o
                    have HRx := Lib.hid (HRw.out.turn hbo.1 hbo.2)
                    have HQ5 := Lib.hid (show g5.q = qb from hq5.trans HQ3.out)
                    clear hbd5 ht5 hq5 hbo cq c0 HMV
                    go_wp2
                    go_roundw
                    case rel =>
                      refine ⟨k + 1, g5, by omega, by go_num, ?_, HQ5⟩
                      rw [HTK.out, buryS_snoc]
                      exact HRx
                    case measure => simp [intOf]; omega
                  · obtain rfl : k = ds.length := by omega
                    go_wp2
                    go_meet
                    case rel =>
                      refine ⟨g3, ?_, HQ3⟩
                      have h := HRw
                      rw [List.take_length] at h
                      exact h
            case rest =>
              obtain ⟨g3, HRM, HQ3⟩ := hcut
              obtain ⟨wM, rfl⟩ : ∃ wM, wM = wc := ⟨_, rfl⟩
              have hLj : Lj = [] := HLE.out.symm
              subst hLj
              have cb := (HIX.out wM (HRM.out.tu.below HBV.out (fun k hk => (HLT2.out k hk).1))).2.1
              have HF := Lib.hid (fire_any HRM.out.bo.bd HRM.out.bo.sk HRM.out.bo.ap (by decide) b 2 (own_ints HRM.out.r3.row) HDL.out)
              rw [HQ3.out] at HF
              clear HR8
              go_wp2_with fail
              refine HF.out.mono ?_
              rintro e wN ⟨rfl, m3, hs9, ht9⟩
              have HRF0 := Lib.hid (show RunsAt V wN lb ls gb b2 k2 g3 m3 ⟨buryS Bj.S ds, Bj.T, Bj.D⟩ (fireL ⟨buryS Bj.S ds, Bj.T, Bj.D⟩ 2 (orderL ⟨buryS Bj.S ds, Bj.T, Bj.D⟩ b ds) []).2 (.slice none 0 0) (.slice none 0 0) (.slice va2 ds.length vc2) (.slice va3 xs.length vc3) [] [] ds xs from by
                have hflip : ∀ k, ownK b2 m2 k → ¬g3.own k := fun k h1 h2 => HRM.out.bo.ap k h2 h1
                have ht : TurnedO wM wN (own2 g3 b2 m2) (own2 g3 b2 m3) := ht9.right (c := g3.own)
                exact HRM.out.turn ⟨HRM.out.bo.bd.farO ht9 hflip, hs9, fun k h1 h2 => apart_o ht9 hflip (fun k hk => HRM.out.bo.bd.ownLt hk) k h2 h1⟩ ht)
              obtain ⟨LF, hLF⟩ : ∃ LF, (fireL ⟨buryS Bj.S ds, Bj.T, Bj.D⟩ 2 (orderL ⟨buryS Bj.S ds, Bj.T, Bj.D⟩ b ds) []).2 = LF := ⟨_, rfl⟩
              have HLF := Lib.hid hLF
              rw [hLF] at HRF0
              have HRF : Hid (RunsAt V wN lb ls gb b2 k2 g3 m3 ⟨buryS Bj.S ds, defT Bj.T (xs.take 0), Bj.D⟩ LF (.slice none 0 0) (.slice none 0 0) (.slice va2 ds.length vc2) (.slice va3 xs.length vc3) [] [] ds xs) := HRF0
              clear hs9 ht9 hLF HF HRM HRF0 cb
              dsimp only
              go_upto_block 12 with fail
              go_cut [29] from 55 to 241 (fun _ wx => ∃ g4 : GhostB, Hid (RunsAt V wx lb ls gb b2 k2 g4 m3 ⟨buryS Bj.S ds, defT Bj.T xs, Bj.D⟩ LF (.slice none 0 0) (.slice none 0 0) (.slice va2 ds.length vc2) (.slice va3 xs.length vc3) [] [] ds xs) ∧ Hid (g4.q = qb))
              case first =>
                as_aux_lemma =>
                  go_wp2_with fail
                  go_loopw [221] (fun i wr => ∃ (k : Nat) (g4 : GhostB), k ≤ xs.length ∧ i = .int .i64 k ∧ Hid (RunsAt V wr lb ls gb b2 k2 g4 m3 ⟨buryS Bj.S ds, defT Bj.T (xs.take k), Bj.D⟩ LF (.slice none 0 0) (.slice none 0 0) (.slice va2 ds.length vc2) (.slice va3 xs.length vc3) [] [] ds xs) ∧ Hid (g4.q = qb)) (fun i _ => xs.length - (intOf i).toNat)
                  case atStart => exact ⟨0, g3, Nat.zero_le _, rfl, HRF, HQ3⟩
                  case round =>
                    obtain ⟨k, g4, hk, rfl, HRw, HQ4⟩ := hrel
                    by_cases hlt : k < xs.length
                    · have d0 : decide ((k : Int) < xs.length) = true := decide_eq_true (by omega)
                      obtain ⟨r, off, hr, _, c0⟩ := (own_ints HRw.out.r4.row).at k hlt
                      have htk := take_last xs k hlt
                      obtain ⟨y, hy⟩ : ∃ y, xs[k] = y := ⟨_, rfl⟩
                      rw [hy] at c0 htk
                      have HTK := Lib.hid htk
                      have HMV := Lib.hid (lose_bd HRw.out.bo.bd y)
                      have cq := HRw.out.bo.bd.cells.2.1
                      rw [HQ4.out] at cq
                      obtain ⟨tb3, htb3⟩ : ∃ tb3, g4.tb = tb3 := ⟨_, rfl⟩
                      rw [htb3] at cq HMV
                      clear hy htk htb3
                      subst hr
                      go_wp2_with fail
                      refine HMV.out.mono ?_
                      rintro e w5 ⟨rfl, g5, hbd5, ht5, hq5⟩
                      have hbo := HRw.out.bo.board hbd5 ht5.o
                      have HRx := Lib.hid (HRw.out.turn hbo.1 hbo.2)
                      have HQ5 := Lib.hid (show g5.q = qb from hq5.trans HQ4.out)
                      clear hbd5 ht5 hq5 hbo cq c0 HMV
                      go_wp2
                      go_roundw
                      case rel =>
                        refine ⟨k + 1, g5, by omega, by go_num, ?_, HQ5⟩
                        rw [HTK.out, defT_snoc]
                        exact HRx
                      case measure => simp [intOf]; omega
                    · obtain rfl : k = xs.length := by omega
                      go_wp2
                      go_meet
                      case rel =>
                        refine ⟨g4, ?_, HQ4⟩
                        have h := HRw
                        rw [List.take_length] at h
                        exact h
              case rest =>
                obtain ⟨g4, HRQ, HQ4⟩ := hcut
                obtain ⟨wQ, rfl⟩ : ∃ wQ, wQ = wc := ⟨_, rfl⟩
                have HWE := Lib.hid (wet_any HRQ.out.bo.bd)
                rw [HQ4.out] at HWE
                go_wp2_with fail
                refine HWE.out.mono ?_
                rintro e wR ⟨rfl, g5, hbd5, ht5, hq5⟩
                have hbo5 := HRQ.out.bo.board hbd5 ht5.o
                have HRR := Lib.hid (HRQ.out.turn hbo5.1 hbo5.2)
                have HQ5' := Lib.hid (show g5.q = qb from hq5.trans HQ4.out)
                have HIN := Lib.hid (own_ints HRR.out.r3.row)
                have hdm : 0 + ds.length ≤ 1000 := by omega
                have hxm : 0 + xs.length ≤ 1000 := by omega
                have hlo5 : V.heap.size ≤ wR.heap.size := HRR.out.tu.size
                clear hbd5 ht5 hq5 hbo5 HWE HRQ
                go_upto_region 51 with fail
                as_aux_lemma =>
                  go_wp2_with (at_builtin; refine wpList_append_ints rfl _ _ rfl rfl V.heap.size (.slice none 0 0) 0 [] rfl (World.ownsRow_nil _ _ _ _) _ _ _ ds rfl rfl HIN.out hdm hlo5 ?_)
                  intro v6 w6 hown6 hgrow6 hnew6
                  have hb6 : Below wR.heap.size wR w6 := ⟨hgrow6.os, hgrow6.tape, hgrow6.output, hgrow6.size, fun k hk => hgrow6.block k hk (by simp [Value.ownBlock])⟩
                  have hp6 : RepAt w6 V.heap.size (own2 g5 b2 m3) v6 ds := RepAt.push (w4 := wR) (fun k hk => HRR.out.bo.ownLt hk) (by simpa using hown6) hnew6
                  obtain ⟨za, zc, rfl⟩ := own_form1 hp6.row
                  have HP6 := Lib.hid hp6
                  have HR6 := Lib.hid (HRR.out.turn (HRR.out.bo.later hb6) (TurnedO.of_below hb6))
                  have HIX2 := Lib.hid (own_ints HR6.out.r4.row)
                  have hlo6 : V.heap.size ≤ w6.heap.size := HR6.out.tu.size
                  clear hown6 hgrow6 hnew6 hb6 hp6
                  go_wp2_with (at_builtin; refine wpList_append_ints rfl _ _ rfl rfl V.heap.size (.slice none 0 0) 0 [] rfl (World.ownsRow_nil _ _ _ _) _ _ _ xs rfl rfl HIX2.out hxm hlo6 ?_)
                  intro v7 w7 hown7 hgrow7 hnew7
                  have hb7 : Below w6.heap.size w6 w7 := ⟨hgrow7.os, hgrow7.tape, hgrow7.output, hgrow7.size, fun k hk => hgrow7.block k hk (by simp [Value.ownBlock])⟩
                  have hp7 : RepAt w7 V.heap.size (own2 g5 b2 m3) v7 xs := RepAt.push (w4 := w6) (fun k hk => HR6.out.bo.ownLt hk) (by simpa using hown7) hnew7
                  obtain ⟨ya, yc, rfl⟩ := own_form1 hp7.row
                  have HP7 := Lib.hid hp7
                  have HR7 := Lib.hid (HR6.out.turn (HR6.out.bo.later hb7) (TurnedO.of_below hb7))
                  have HP6' := Lib.hid (HP6.out.turn (TurnedO.of_below hb7))
                  clear hown7 hgrow7 hnew7 hb7 hp7
                  have hBB : B = Bj := HBE.out
                  have E1 := Lib.hid (show dJ B 1 = ds from by rw [hBB]; exact HDS.out)
                  have E2 := Lib.hid (show xJ B 1 = xs from by rw [hBB]; exact HXS.out)
                  have E3 := Lib.hid (show stB B 1 = ⟨buryS Bj.S ds, defT Bj.T xs, dry0⟩ from by
                    rw [hBB]
                    show roundB Bj = _
                    unfold roundB
                    rw [HDS.out, HXS.out])
                  have E4 := Lib.hid (show stK B b [] 1 = LF from by
                    rw [hBB]
                    show roundK Bj b [] = LF
                    unfold roundK midB
                    rw [HDS.out]
                    exact HLF.out)
                  clear hBB
                  go_wp2
                  go_roundw
                  case rel =>
                    refine ⟨1, za, zc, ya, yc, g5, m3, by omega, by go_num, by rw [E1.out], by rw [E2.out], ?_, HQ5', Lib.hid ⟨fun _ => HNS.out, fun e => by omega⟩⟩
                    rw [E1.out, E2.out, E3.out, E4.out]
                    exact Lib.hid ⟨HR7.out.bo, HR7.out.tu, HP6'.out, HP7.out, RepAt.none _ _ _, RepAt.none _ _ _⟩
                  case measure => simp [intOf]
end Go.Proofs.YtokgmffibafkcaaGreat
