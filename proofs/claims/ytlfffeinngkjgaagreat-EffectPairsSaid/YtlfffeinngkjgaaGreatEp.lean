/- The law EffectPairs, walked (layer 11). -/
import Derived.Test.YtlfffeinngkjgaaGreatPa
import Derived.Test.YtlfffeinngkjgaaGreatAq
import Derived.Test.YtlfffeinngkjgaaGreatEa
import Derived.Sort.CutIn
import Derived.Deep.Cut
import Derived.Deep.DeepCutAuto
namespace Go.Proofs.YtlfffeinngkjgaaGreat
open Go.RowKit Go.Maps
attribute [local go_sem] Oper.semAt_some

/-- What a sum over teams holds: the sum in its box, and all that lay before. -/
structure SumI (w0 : World) (T : TeamL) (q : Nat) (pre : List Int) (W : World) : Prop where
  lo : Below w0.heap.size w0 W
  box : HdAt W q (.int .i64 (sumT T pre))
  len : pre.length ≤ 4
theorem sumI_own {w0 : World} {T : TeamL} {q N : Nat} (h0 : w0.heap.size ≤ N) : OwnFrom N (SumI w0 T q) := fun pre A W row hs hg hr =>
  ⟨ownFrom_below (w₀ := w0) (n₀ := w0.heap.size) (B := N) (Nat.le_refl _) h0 pre A W row hs.lo hg hr, hs.box.grown hg (fun r e => (hr r e).2), hs.len⟩
structure SumJ (w0 : World) (T : TeamL) (q q' : Nat) (pre : List Int) (W : World) : Prop where
  lo : Below w0.heap.size w0 W
  box : HdAt W q (.int .i64 (sumT T pre))
  cnt : HdAt W q' (.int .i64 (pre.length : Int))
  len : pre.length ≤ 4
theorem sumJ_own {w0 : World} {T : TeamL} {q q' N : Nat} (h0 : w0.heap.size ≤ N) : OwnFrom N (SumJ w0 T q q') := fun pre A W row hs hg hr =>
  ⟨ownFrom_below (w₀ := w0) (n₀ := w0.heap.size) (B := N) (Nat.le_refl _) h0 pre A W row hs.lo hg hr, hs.box.grown hg (fun r e => (hr r e).2), hs.cnt.grown hg (fun r e => (hr r e).2), hs.len⟩
theorem keepB5 {A w w' : World} {a0 a1 a2 a3 a4 : Addr} {v0 v1 v2 v3 v4 : Value} (hb : Below w.heap.size w w') (h : Below A.heap.size A w ∧ w.cell? a0 = some v0 ∧ w.cell? a1 = some v1 ∧ w.cell? a2 = some v2 ∧ w.cell? a3 = some v3 ∧ w.cell? a4 = some v4) :
    Below A.heap.size A w' ∧ w'.cell? a0 = some v0 ∧ w'.cell? a1 = some v1 ∧ w'.cell? a2 = some v2 ∧ w'.cell? a3 = some v3 ∧ w'.cell? a4 = some v4 :=
  ⟨stepB h.1 hb, cell_stays hb h.2.1, cell_stays hb h.2.2.1, cell_stays hb h.2.2.2.1, cell_stays hb h.2.2.2.2.1, cell_stays hb h.2.2.2.2.2⟩
theorem sum_bd {T : TeamL} (h : ∀ k, -999 ≤ lifeT T k ∧ lifeT T k ≤ 999) : ∀ l : List Int, -(999 * (l.length : Int)) ≤ sumT T l ∧ sumT T l ≤ 999 * (l.length : Int)
  | [] => by simp [sumT]
  | x :: l => by
    have h1 := sum_bd h l
    have h2 := h x
    rw [sumT, List.length_cons]
    push_cast
    omega
theorem TurnedB.terms2 {w w' : World} {g g' : GhostB} {b n : Nat} {l : List Crd.TermL} (hc : ∀ i (h : i < l.length), w.cell? ⟨b, i * 3, none⟩ = some (.int .i64 l[i].op) ∧ w.cell? ⟨b, i * 3 + 1, none⟩ = some (.int .i64 l[i].n) ∧ w.cell? ⟨b, i * 3 + 2, none⟩ = some (.int .i64 l[i].on)) (ht : TurnedB w w' g g') (hb : ¬g.own b) (hlt : b < w.heap.size) : Crd.TermsIs w' (.slice (some ⟨b, 0, none⟩) l.length n) l := by
  have hk := (ht.keeps hlt hb).1
  refine .inr ⟨b, 0, n, rfl, Nat.lt_of_lt_of_le hlt ht.size, fun i hi => ?_⟩
  rw [Nat.zero_add, World.cell?_of_block (a := ⟨b, i * 3, none⟩) hk, World.cell?_of_block (a := ⟨b, i * 3 + 1, none⟩) hk, World.cell?_of_block (a := ⟨b, i * 3 + 2, none⟩) hk]
  exact hc i hi
theorem can_self {B : BoardL} {seat op n : Int} (hs : hasT B seat = true) (ho : 0 ≤ ofT B.T seat) (hop : op = 2 ∨ op = 8) (h0 : 0 ≤ n) (h20 : n ≤ 20) : canB B seat ⟨op, n, 0⟩ 0 = true := by
  have ht : Crd.termB ⟨op, n, 0⟩ = true := by
    rcases hop with rfl | rfl <;> simp [Crd.termB, Crd.mostI, Crd.aimsI, h0, h20]
  unfold canB
  rw [hs, ht]
  simp [chkT, mayT, show ¬ ofT B.T seat < 0 by omega]
theorem pairs_run {B : BoardL} {s x y : Nat} (hs : hasT B s = true) (ho : 0 ≤ ofT B.T s) (hx : x ≤ 20) (hy : y ≤ 20) :
    runAll B s 0 [⟨2, x, 0⟩, ⟨8, y, 0⟩] = (⟨B.S, drainT (gainT B.T (ofT B.T s) x) s y, B.D⟩, 2) := by
  have c1 : canB B s ⟨2, x, 0⟩ 0 = true := can_self hs ho (.inl rfl) (by omega) (by omega)
  have d1 : doB B s ⟨2, x, 0⟩ 0 = ⟨B.S, gainT B.T (ofT B.T s) x, B.D⟩ := by
    unfold doB
    rw [if_pos c1]
    unfold workB
    rfl
  have c2 : canB ⟨B.S, gainT B.T (ofT B.T s) x, B.D⟩ s ⟨8, y, 0⟩ 0 = true := can_self hs (by show 0 ≤ ofT (gainT B.T (ofT B.T s) x) s; unfold ofT at ho ⊢; rw [gain_sides]; exact ho) (.inr rfl) (by omega) (by omega)
  have d2 : doB ⟨B.S, gainT B.T (ofT B.T s) x, B.D⟩ s ⟨8, y, 0⟩ 0 = ⟨B.S, drainT (gainT B.T (ofT B.T s) x) s y, B.D⟩ := by
    unfold doB
    rw [if_pos c2]
    rfl
  have p0 : ∀ t : Crd.TermL, placeI t 0 = 0 := fun t => by unfold placeI; split <;> rfl
  unfold runAll
  simp only [List.foldl_cons, List.foldl_nil, p0, d1, d2, c1, c2, if_true]
set_option maxRecDepth 100000 in
set_option maxHeartbeats 32000000 in
theorem effectPairs_walk {v : Value} {l : List ThingL} {n0 n1 n2 m0 m1 : Nat} {w : World} (hv : ThingsAt w v l) (hw : ∀ x ∈ l, Wf x.owner ∧ Wf x.zone) (hlen : l.length ≤ 9223372036854775807) (h0 : n0 < 256) (h1 : n1 < 256) (h2 : n2 < 256) (h3 : m0 < 256) (h4 : m1 < 256) :
    Calls Tryz.prog 6 #[v, .agg #[.int .u8 n0, .int .u8 n1, .int .u8 n2], .agg #[.int .u8 m0, .int .u8 m1]] w (RetV w (.bool true)) := by
  have hb0 := below_new w (.cells #[.int .u8 n0, .int .u8 n1, .int .u8 n2] 65)
  have hb1 := below_alloc2 hb0 (.cells #[.int .u8 m0, .int .u8 m1] 66)
  obtain ⟨W, hW⟩ : ∃ W, (w.alloc (.cells #[.int .u8 n0, .int .u8 n1, .int .u8 n2] 65)).alloc (.cells #[.int .u8 m0, .int .u8 m1] 66) = W := ⟨_, rfl⟩
  have hq4 : W.heap[w.heap.size]? = some (.cells #[.int .u8 n0, .int .u8 n1, .int .u8 n2] 65) := by
    rw [← hW, Below.heap_alloc _ _ _ (by simp)]
    exact heap_alloc_new _ _
  have hq5 : W.heap[w.heap.size + 1]? = some (.cells #[.int .u8 m0, .int .u8 m1] 66) := by
    have := heap_alloc_new (w.alloc (.cells #[.int .u8 n0, .int .u8 n1, .int .u8 n2] 65)) (.cells #[.int .u8 m0, .int .u8 m1] 66)
    rw [World.size_alloc] at this
    rw [← hW]
    exact this
  rw [hW] at hb1
  have K := Lib.hid (show W.cell? ⟨w.heap.size, 0, none⟩ = some (.int .u8 n0) ∧ W.cell? ⟨w.heap.size, 1, none⟩ = some (.int .u8 n1) ∧ W.cell? ⟨w.heap.size, 2, none⟩ = some (.int .u8 n2) ∧ W.cell? ⟨w.heap.size + 1, 0, none⟩ = some (.int .u8 m0) ∧ W.cell? ⟨w.heap.size + 1, 1, none⟩ = some (.int .u8 m1) from
    ⟨cell_of_row W _ 0 _ _ (0, 0) hq4, cell_of_row W _ 1 _ _ (0, 0) hq4, cell_of_row W _ 2 _ _ (0, 0) hq4, cell_of_row W _ 0 _ _ (0, 0) hq5, cell_of_row W _ 1 _ _ (0, 0) hq5⟩)
  have HSZ := Lib.hid (show W.heap.size = w.heap.size + 2 by rw [← hW]; simp)
  have HBO := Lib.hid (fun (w' : World) (hb : Below W.heap.size W w') => board_any ((hv.later hb1).later hb) hw hlen n0 h0)
  have HB0 := Lib.hid hb1
  have HW := Lib.hid hW
  obtain ⟨va, vc, rfl⟩ := hv.form
  clear hb0 hb1 hW hq4 hq5 hv hw
  refine (callsIn_wide (n := 9)).1 ?_
  refine callsIn_of_wp_marks Tryz.func6 rfl trivial ?_ rfl
  simp only [Tryz.ntmps6, List.size_toArray, List.length_cons, List.length_nil, Nat.reduceAdd, Nat.reduceSub, Array.replicate_succ, Array.replicate_zero, List.push_toArray, List.append_toArray, List.nil_append, List.cons_append]
  refine wpIn_wide.2 ?_
  go_upto_region 1 with fail
  rw [HW.out]
  obtain ⟨q4, hq4⟩ : ∃ q, w.heap.size = q := ⟨_, rfl⟩
  have HQ4 := Lib.hid hq4
  try simp only [World.size_alloc]
  rw [hq4] at K ⊢
  clear hq4
  go_wp2_with fail
  refine (awake11_any W).mono ?_
  rintro e w1 ⟨rfl, hb1⟩
  have HB1 := Lib.hid hb1
  have K1 := Lib.hid (keepC5 hb1 K.out)
  obtain ⟨k0, -⟩ := K1.out
  clear hb1 K
  dsimp only
  go_wp2_with fail
  refine (HBO.out w1 HB1.out).mono ?_
  rintro e w2 (⟨hp, hm, lo, g, rfl, hbd, hlo, hb2⟩ | ⟨hn, rfl, hb2⟩)
  case inr =>
    have HB2 := Lib.hid (below_alloc2 (stepB HB0.out (stepB HB1.out hb2)) (.cells #[.pointer none] 28))
    clear hb2 HBO hn k0
    dsimp only
    go_wp2
    exact ⟨_, results_tmp rfl _ _ _, rfl, HB2.out⟩
  have HM := Lib.hid hm
  have hb3 := below_new w2 (.cells #[.pointer (some ⟨g.q, 0, none⟩)] 28)
  have HB12 := Lib.hid (stepB HB1.out (stepB hb2 hb3))
  have HH7 := Lib.hid (HdAt.new w2 (.pointer (some ⟨g.q, 0, none⟩)) 28)
  have HBD := Lib.hid (hbd.later hb3)
  have HLW := Lib.hid (show w.heap.size ≤ lo from by have := HB0.out.size; have := HB1.out.size; omega)
  have HOL := Lib.hid (show ∀ k, g.own k → W.heap.size ≤ k ∧ k < w2.heap.size from fun k hk => ⟨Nat.le_trans (Nat.le_trans HB1.out.size hlo) (hbd.ownLo hk), hbd.ownLt hk⟩)
  have K2 := Lib.hid (keepC5 (stepB hb2 hb3) K1.out)
  obtain ⟨w3, hw3⟩ : ∃ w3, w2.alloc (.cells #[.pointer (some ⟨g.q, 0, none⟩)] 28) = w3 := ⟨_, rfl⟩
  have HS3 := Lib.hid (show w3.heap.size = w2.heap.size + 1 by rw [← hw3]; simp)
  have HW3 := Lib.hid hw3
  rw [hw3] at HB12 HH7 HBD K2
  clear hp hm hlo hbd hb2 hb3 hw3 HBO K1 k0
  dsimp only
  go_upto_region 4 with fail
  rw [HW3.out]
  obtain ⟨q7, hq7⟩ : ∃ q, w2.heap.size = q := ⟨_, rfl⟩
  rw [hq7] at HH7 HS3 HOL ⊢
  have HQ7 := Lib.hid (show W.heap.size ≤ q7 by have h1 := HB12.out.size; have h2 := HS3.out; have h3 := (HOL.out g.q (.inr (.inl rfl))); omega)
  clear hq7
  have c7 := HH7.out.cell
  obtain ⟨k0, k1, k2, k3, k4⟩ := K2.out
  go_upto_region 6 with fail
  go_cut [8, 9] from 32 to 38 (fun s8 s9 wx => ∃ s : Nat, s < 4 ∧ s8 = .int .i64 (s : Int) ∧ s9 = .int .i64 (n2 : Int) ∧ Hid (Below w3.heap.size w3 wx))
  case first =>
    go_region
    go_wp2
    go_meet
    case rel => exact ⟨n1 % 4, by omega, congrArg (Value.int .i64) (by omega), rfl, Lib.hid (Below.refl _ w3).drew⟩
  case rest =>
  obtain ⟨s, hs4, rfl, rfl, HC1⟩ := hcut
  obtain ⟨wC, rfl⟩ : ∃ wC, wC = wc := ⟨_, rfl⟩
  have k3 := cell_stays HC1.out k3
  have k4 := cell_stays HC1.out k4
  have c7 := cell_stays HC1.out c7
  go_upto_region 7 with fail
  go_cut [10, 11] from 39 to 46 (fun s10 s11 wx => ∃ x y : Nat, x ≤ 20 ∧ y ≤ 20 ∧ s10 = .int .i64 (x : Int) ∧ s11 = .int .i64 (y : Int) ∧ Hid (Below wC.heap.size wC wx))
  case first =>
    go_region
    go_wp2
    go_meet
    case rel => exact ⟨m0 % 21, m1 % 21, by omega, by omega, congrArg (Value.int .i64) (by omega), congrArg (Value.int .i64) (by omega), Lib.hid (Below.refl _ wC).drew⟩
  case rest =>
  obtain ⟨x, y, hx20, hy20, rfl, rfl, HC2⟩ := hcut
  obtain ⟨w4, rfl⟩ : ∃ w4, w4 = wc := ⟨_, rfl⟩
  have hd4 : Below w3.heap.size w3 w4 := stepB HC1.out HC2.out
  have HB4 := Lib.hid (stepB HB12.out hd4)
  have HBD4 := Lib.hid (HBD.out.later hd4)
  have HH74 := Lib.hid (HH7.out.later hd4)
  have HHD := Lib.hid (heal_drain n0 s x y hs4 hx20 hy20)
  have HS4 := Lib.hid (show q7 + 1 ≤ w4.heap.size from by have := hd4.size; have := HS3.out; omega)
  clear hd4 k0 k1 k2 k3 k4 c7 HBD HH7 HB12 K2 HC1 HC2
  have HTL := Lib.hid (sides_life n0)
  obtain ⟨T, hT⟩ : ∃ T, sidesT n0 = T := ⟨_, rfl⟩
  have HTT := Lib.hid hT
  have hbT : boardL l n0 = ⟨madeF l, T, dry0⟩ := by rw [← hT]; rfl
  rw [hbT] at HBD4
  rw [hT] at HHD HTL
  dsimp only at HHD
  have HOF := Lib.hid (tof_any HBD4.out.tm s)
  dsimp only at HOF
  obtain ⟨own, hown⟩ : ∃ own, ofT T s = own := ⟨_, rfl⟩
  rw [hown] at HOF HHD
  have HOWN := Lib.hid hown
  clear hT hbT hown
  have c7 := HH74.out.cell
  obtain ⟨cg0, cg1, -⟩ := HBD4.out.cells
  go_wp2_with fail
  refine HOF.out.mono ?_
  rintro e w4 ⟨rfl, rfl⟩
  go_upto_region 10 with fail
  have hb5 := below_new w4 (.cells #[.int .i64 0] 3)
  have HQ13 := Lib.hid (HdAt.new w4 (.int .i64 0) 3)
  obtain ⟨w5, hw5⟩ : ∃ w5, w4.alloc (.cells #[.int .i64 0] 3) = w5 := ⟨_, rfl⟩
  have HS5 := Lib.hid (show w5.heap.size = w4.heap.size + 1 by rw [← hw5]; simp)
  rw [hw5] at hb5 HQ13
  try rw [hw5]
  have HB5 := Lib.hid hb5
  have c7' := cell_stays hb5 c7
  have cg1' := cell_stays hb5 cg1
  obtain ⟨q13, hq13⟩ : ∃ q, w4.heap.size = q := ⟨_, rfl⟩
  rw [hq13] at HQ13 HS4 HS5 ⊢
  have HQQ := Lib.hid hq13
  clear hb5 hq13 hw5 c7 cg0 cg1
  go_wp2_with fail
  refine (foes_any (some ⟨g.tb, 0, none⟩) own w5).mono ?_
  rintro e w6 ⟨rfl, hd1, hd2, hb6, hs6⟩
  have HTM6 := Lib.hid ((HBD4.out.later (stepB HB5.out hb6)).tm)
  have hoff : ∀ q, q = g.tb ∨ q = g.s ∨ q = g.r ∨ q = w5.heap.size ∨ q = w5.heap.size + 1 → ¬q = q13 ∧ Off (fun _ => False) w6 q := fun q hq => by
    have a1 := HBD4.out.tm.lt
    have a2 := HBD4.out.tm.sd.1
    have a3 := HBD4.out.tm.ltr
    have a4 := HQQ.out
    have a5 := HS5.out
    try dsimp only at a1 a2 a3
    exact ⟨by rcases hq with h | h | h | h | h <;> omega, fun e => e, fun _ e => e.elim⟩
  have HSEQ := Lib.hid (foes_seq 8 (by omega) (fun k => k = q13) (fun _ => False) hd1 hd2 HTM6.out hoff)
  have HI0 : Hid (SumI w4 T q13 [] w6) := Lib.hid ⟨stepB HB5.out hb6, HQ13.out.later hb6, Nat.zero_le _⟩
  have HS6 := Lib.hid (show q13 + 3 ≤ w6.heap.size from by have := HS5.out; omega)
  clear hd1 hd2 hb6 hs6 hoff c7' cg1' HQ13
  obtain ⟨m5, hm5⟩ : ∃ m, w5.heap.size = m := ⟨_, rfl⟩
  obtain ⟨m6, hm6⟩ : ∃ m, w5.heap.size + 1 = m := ⟨_, rfl⟩
  rw [hm6] at HSEQ ⊢
  rw [hm5] at HSEQ ⊢
  clear hm5 hm6
  dsimp only at HSEQ
  go_wp2_with fail
  refine (wpIn_wide (n := 9)).1 ?_
  refine range_world3 rfl (by omega) (I := SumI w4 T q13) (Ix := fun _ _ _ => False) (gf := 51) (lb := _) rfl trivial (fun _ _ => by kernel_rfl) HSEQ.out KpP.trans (fun W' o o' ho hc _ => KpP.put o' (.inr rfl) ho hc) (fun W W' hb => KpP.of_below _ _ hb) (Below.refl _ _) (fun _ => rfl)
    (sumI_own HI0.out.lo.size) (fun c s A B row hs hg hr => hs) (fun s A B row hs hg hr => hs) (fun s A B row hs hg hr => hs) HI0.out ?round ?done ?stop
  case stop =>
    rintro D c pre W hD hS hI hK
    exact hI.elim
  case round =>
    rintro pre x1 W1 K hI hT hsz hK
    have HPL := Lib.hid (show pre.length + 1 ≤ 4 from by
      have h1 := hT.length_le
      have h2 := upTo_len (foeB T own) T.sh.length
      have h3 := HTM6.out.n2
      unfold foesT at h1
      simp at h1
      try dsimp only at h3
      omega)
    have HK := Lib.hid hK
    clear hK hT hI
    simp only [encF]
    simp
    gi_wp2
    refine HK.out _ _ (Below.refl _ _) ?_
    clear HK
    intro Wb hsz2 hrest hkw hIb
    have HIB := Lib.hid hIb
    have HKW := Lib.hid hkw
    have k13 := hIb.box.cell
    have f13 := hIb.box.frozen
    have k7 := cell_stays hIb.lo HH74.out.cell
    have kg := cell_stays hIb.lo HBD4.out.cells.2.1
    have HLF := Lib.hid (tlife_any ((HBD4.out.tm.later hIb.lo).later ((Below.refl Wb.heap.size Wb).drew)) x1)
    dsimp only at HLF
    have hsb := sum_bd (T := T) (fun k => by have := HTL.out k; omega) pre
    have hlx := HTL.out x1
    have hpl := HPL.out
    have HSN := Lib.hid (sumT_snoc T pre x1)
    obtain ⟨SM, hSM⟩ : ∃ m, sumT T pre = m := ⟨_, rfl⟩
    obtain ⟨LX, hLX⟩ : ∃ m, lifeT T x1 = m := ⟨_, rfl⟩
    rw [hSM] at k13 hsb HSN
    rw [hLX] at HLF hlx HSN
    have hwr : IntKind.i64.wrap (SM + LX) = SM + LX := IntWalk.i64_in _ (by omega)
    clear hsz2 hrest hkw hIb hSM hLX
    gi_upto_region 12 with fail
    refine wpIn_region_any (by kernel_rfl) ?_
    change wpAnyIn _ _ _ _ _ _ _ _ _ (World.drew _)
    refine anyC.any (c := 8) (S := fun w' => w'.cell? ⟨q13, 0, none⟩ = some (.int .i64 SM) ∧ w'.cell? ⟨q7, 0, none⟩ = some (.pointer (some ⟨g.q, 0, none⟩)) ∧ w'.cell? ⟨g.q, 1, none⟩ = some (.pointer (some ⟨g.tb, 0, none⟩))) ?_
    refine anyC_take [7, 8] (i := 0) (v := ?_) (by decide) (by decide) (by kernel_rfl) (by kernel_rfl) (by kernel_rfl) (by kernel_rfl) rfl (by kernel_rfl) (by kernel_rfl) (by kernel_rfl) (fun _ _ _ h => h) (by rfl) (fun _ => rfl) ?_ ?_
    rotate_left
    · intro w' hS
      obtain ⟨s0, s1, s2⟩ := hS
      go_simp
      try with_reducible rfl
    refine anyC_take [2, 3, 4, 6, 7, 8] (i := 1) (v := ?_) (by decide) (by decide) (by kernel_rfl) (by kernel_rfl) (by kernel_rfl) (by kernel_rfl) rfl (by kernel_rfl) (by kernel_rfl) (by kernel_rfl) (fun _ _ _ h => h) (by rfl) (fun _ => rfl) ?_ ?_
    rotate_left
    · intro w' hS
      obtain ⟨s0, s1, s2⟩ := hS
      go_simp
      try with_reducible rfl
    refine anyC_take [3, 4, 6, 7, 8] (i := 2) (v := ?_) (by decide) (by decide) (by kernel_rfl) (by kernel_rfl) (by kernel_rfl) (by kernel_rfl) rfl (by kernel_rfl) (by kernel_rfl) (by kernel_rfl) (fun _ _ _ h => h) (by rfl) (fun _ => rfl) ?_ ?_
    rotate_left
    · intro w' hS
      go_simp
      try with_reducible rfl
    refine anyC_take [4, 6, 7, 8] (i := 3) (v := ?_) (by decide) (by decide) (by kernel_rfl) (by kernel_rfl) (by kernel_rfl) (by kernel_rfl) rfl (by kernel_rfl) (by kernel_rfl) (by kernel_rfl) (fun _ _ _ h => h) (by rfl) (fun _ => rfl) ?_ ?_
    rotate_left
    · intro w' hS
      go_simp
      try with_reducible rfl
    refine anyC_take [6, 7, 8] (i := 4) (v := ?_) (by decide) (by decide) (by kernel_rfl) (by kernel_rfl) (by kernel_rfl) (by kernel_rfl) rfl (by kernel_rfl) (by kernel_rfl) (by kernel_rfl) (fun _ _ _ h => h) (by rfl) (fun _ => rfl) ?_ ?_
    rotate_left
    · intro w' hS
      obtain ⟨s0, s1, s2⟩ := hS
      go_simp
      try with_reducible rfl
    refine anyC_take [6, 7, 8] (i := 5) (v := ?_) (by decide) (by decide) (by kernel_rfl) (by kernel_rfl) (by kernel_rfl) (by kernel_rfl) rfl (by kernel_rfl) (by kernel_rfl) (by kernel_rfl) (fun _ _ _ h => h) (by rfl) (fun _ => rfl) ?_ ?_
    rotate_left
    · intro w' hS
      go_simp
      try with_reducible rfl
    refine anyC_one (i := 6) (by kernel_rfl) rfl (fun _ => ⟨cell_stays (Below.refl Wb.heap.size Wb).drew k13, cell_stays (Below.refl Wb.heap.size Wb).drew k7, cell_stays (Below.refl Wb.heap.size Wb).drew kg⟩) (fun K hK => ?_)
    go_simp
    gi_wp2_with ((refine ⟨trivial, ?_⟩; gi_at_call 26; refine CallsIn.mono (F := Fence.wide) (callsIn_wide.2 (HLF.out)) ?_; rintro e w9 ⟨rfl, rfl⟩; dsimp only))
    refine anyC_take [8] (i := 7) (v := ?_) (by decide) (by decide) (by kernel_rfl) (by kernel_rfl) (by kernel_rfl) (by kernel_rfl) rfl (by kernel_rfl) (by kernel_rfl) (by kernel_rfl) (fun _ _ _ h => h) (by rfl) (fun _ => rfl) ?_ ?_
    rotate_left
    · intro w' hS
      go_simp
      try with_reducible rfl
    refine anyC_one (i := 8) (by kernel_rfl) rfl (fun _ => ⟨cell_stays (Below.refl Wb.heap.size Wb).drew k13, cell_stays (Below.refl Wb.heap.size Wb).drew k7, cell_stays (Below.refl Wb.heap.size Wb).drew kg⟩) (fun K hK => ?_)
    go_simp
    refine hK _ _ ?_
    clear hK K
    refine anyC_done (by kernel_rfl) (fun h => absurd ((show Array.getD _ 8 true = true by kernel_rfl).symm.trans h) (by decide)) ?_ _
    have hdr := (Below.refl Wb.heap.size Wb).drew
    have HST := Lib.hid (kpP_setE (W := Wb.drew) (l := q13) (.int .i64 (SM + LX)))
    have HKK := Lib.hid ((KpP.of_below (fun k => k = q13) (fun _ => False) hdr).trans HST.out)
    have HNI : Hid (SumI w4 T q13 (pre ++ [x1]) (Wb.drew.setCell ⟨q13, 0, none⟩ (.int .i64 (SM + LX)))) := Lib.hid ⟨(HIB.out.lo.drew).setCell (by have := HQQ.out; show w4.heap.size ≤ q13; omega) _, by rw [HSN.out]; exact (HIB.out.box.later hdr).set _, by rw [List.length_append]; exact HPL.out⟩
    gi_wp2
    exact ⟨HKK.out.from (fun k e => by have := HS6.out; omega), HKW.out.trans (HKK.out.mono (fun k e => .inl e)), HNI.out⟩
  case done =>
    rintro D ys W7 hD hS hI hK
    subst hS
    have HI7 := Lib.hid hI
    have HK7 := Lib.hid (And.intro hD hK)
    clear hI hK hD
    obtain ⟨F, hF⟩ : ∃ F, foesT T own = F := ⟨_, rfl⟩
    have HFF := Lib.hid hF
    rw [hF] at HI7 HHD
    clear hF HSEQ
    have c7 := cell_stays HI7.out.lo HH74.out.cell
    obtain ⟨cg0, cg1, -⟩ := (HBD4.out.later HI7.out.lo).cells
    have HLF := Lib.hid (tlife_any (HBD4.out.later HI7.out.lo).tm own)
    dsimp only at HLF
    obtain ⟨was, hwas⟩ : ∃ u, lifeT T own = u := ⟨_, rfl⟩
    have HWAS := Lib.hid (show 0 ≤ was ∧ was ≤ 30 from by rw [← hwas]; exact HTL.out own)
    rw [hwas] at HLF HHD
    clear hwas
    go_wp2_with fail
    refine HLF.out.mono ?_
    rintro e w7 ⟨rfl, rfl⟩
    have hb8 := below_new w7 (.cells #[.int .i64 2, .int .i64 x, .int .i64 0, .int .i64 8, .int .i64 y, .int .i64 0] 24)
    have hc8 := fun j => cell_of_row (w7.alloc (.cells #[.int .i64 2, .int .i64 x, .int .i64 0, .int .i64 8, .int .i64 y, .int .i64 0] 24)) w7.heap.size j _ _ _ (heap_alloc_new w7 (.cells #[.int .i64 2, .int .i64 x, .int .i64 0, .int .i64 8, .int .i64 y, .int .i64 0] 24))
    have HOW7 := Lib.hid (show ∀ k, g.own k → k < w7.heap.size from fun k hk => Nat.lt_of_lt_of_le (HBD4.out.ownLt hk) HI7.out.lo.size)
    have hall := all11_any ((HBD4.out.later HI7.out.lo).later hb8) (u := .slice (some ⟨w7.heap.size, 0, none⟩) 2 2) (l := [⟨2, x, 0⟩, ⟨8, y, 0⟩]) (fun w' g' ht => TurnedB.terms2 (n := 2) (l := [⟨2, x, 0⟩, ⟨8, y, 0⟩]) (fun i hi => by
      rcases (show i = 0 ∨ i = 1 by simp at hi; omega) with rfl | rfl
      · exact ⟨hc8 0, hc8 1, hc8 2⟩
      · exact ⟨hc8 3, hc8 4, hc8 5⟩) ht (fun e => by have := HOW7.out _ e; omega) (by simp)) (by simp) ⟨_, _, rfl⟩ s 0
    rw [pairs_run (by show decide (0 ≤ (s : Int) ∧ (s : Int) < (madeF l).seats) = true; rw [HM.out.seats]; exact decide_eq_true (by omega)) (by show 0 ≤ ofT T s; rw [← HTT.out]; exact sides_of n0 (by omega)) hx20 hy20] at hall
    dsimp only at hall
    rw [show ofT T (s : Int) = own from HOWN.out] at hall
    have HALL := Lib.hid hall
    have HB8 := Lib.hid hb8
    clear hall hc8 hb8 HLF cg0 cg1
    go_wp2_with fail
    refine HALL.out.mono ?_
    rintro e w9 ⟨rfl, g9, hb9, ht9, hq9⟩
    obtain ⟨T2, hT2⟩ : ∃ T2, drainT (gainT T own (x : Int)) s y = T2 := ⟨_, rfl⟩
    have HTE := Lib.hid hT2
    rw [hT2] at hb9 HHD
    clear hT2
    have HBD9 := Lib.hid hb9
    have HQ9 := Lib.hid hq9
    have hs8 : w7.heap.size < (w7.alloc (.cells #[.int .i64 2, .int .i64 x, .int .i64 0, .int .i64 8, .int .i64 y, .int .i64 0] 24)).heap.size := by simp
    have hkeep : ∀ (k : Nat) (o : Obj), k < w7.heap.size → w7.heap[k]? = some o → ¬g.own k → w9.heap[k]? = some o := fun k o hk ho hn =>
      (ht9.keeps (by omega) hn).1.trans ((HB8.out.block k hk).trans ho)
    have hn7 : ¬g.own q7 := fun e => by have := (HOL.out q7 e).2; omega
    have hn13 : ∀ k, q7 ≤ k → ¬g.own k := fun k hk e => by have := (HOL.out k e).2; omega
    have hq713 : q7 < q13 := HS4.out
    have HH79 : Hid (HdAt w9 q7 (.pointer (some ⟨g.q, 0, none⟩))) := Lib.hid (by
      obtain ⟨t, ht⟩ := HH74.out.later HI7.out.lo
      exact ⟨t, hkeep q7 _ (Array.getElem?_eq_some_iff.1 ht).1 ht hn7⟩)
    have HH139 : Hid (HdAt w9 q13 (.int .i64 (sumT T F))) := Lib.hid (by
      obtain ⟨t, ht⟩ := HI7.out.box
      exact ⟨t, hkeep q13 _ (Array.getElem?_eq_some_iff.1 ht).1 ht (hn13 q13 (by omega))⟩)
    have hK7 := HK7.out.2
    have HKD9 := Lib.hid (show w9.heap[D]? = some (.deferred (some [])) from hkeep D _ (Array.getElem?_eq_some_iff.1 hK7).1 hK7 (hn13 D (by have := HS6.out; have := HK7.out.1; omega)))
    have HDD := Lib.hid (show q13 < D ∧ D < w9.heap.size from ⟨by have := HS6.out; have := HK7.out.1; omega, (Array.getElem?_eq_some_iff.1 HKD9.out).1⟩)
    have HBW9 := Lib.hid (ht9.below ((stepB HB4.out HI7.out.lo) |> fun h => stepB HB0.out (stepB h HB8.out)) (fun k hk => Nat.le_trans (by have := HSZ.out; omega) (HOL.out k hk).1))
    have HCG9 := Lib.hid (show w9.cell? ⟨g.q, 1, none⟩ = some (.pointer (some ⟨g9.tb, 0, none⟩)) from by have := hb9.cells.2.1; rwa [hq9] at this)
    have HNO9 := Lib.hid (show ∀ k, q7 ≤ k → k < w7.heap.size → ¬g9.own k from fun k h1 h2 e => hn13 k h1 (ht9.own k (by omega) e))
    have HLT7 := Lib.hid (show q7 < w7.heap.size ∧ D < w7.heap.size from ⟨by have := HS6.out; have := HK7.out.1; have := (Array.getElem?_eq_some_iff.1 hK7).1; omega, (Array.getElem?_eq_some_iff.1 hK7).1⟩)
    clear hb9 ht9 hq9 hs8 hkeep hn7 hn13 hq713 hK7 c7 HBD4 HH74 HI7 HK7 HB8 HB4
    dsimp only
    go_upto_region 17 with fail
    have hx1 := below_new w9 (.cells #[.int .i64 0] 3)
    have hx2 := below_alloc2 hx1 (.cells #[.int .i64 0] 3)
    have h16 : HdAt ((w9.alloc (.cells #[.int .i64 0] 3)).alloc (.cells #[.int .i64 0] 3)) w9.heap.size (.int .i64 0) := (HdAt.new w9 (.int .i64 0) 3).later (below_new _ _)
    have h17 : HdAt ((w9.alloc (.cells #[.int .i64 0] 3)).alloc (.cells #[.int .i64 0] 3)) (w9.heap.size + 1) (.int .i64 0) := by
      have := HdAt.new (w9.alloc (.cells #[.int .i64 0] 3)) (.int .i64 0) 3
      rwa [World.size_alloc] at this
    obtain ⟨w10, hw10⟩ : ∃ w10, (w9.alloc (.cells #[.int .i64 0] 3)).alloc (.cells #[.int .i64 0] 3) = w10 := ⟨_, rfl⟩
    have HS10 := Lib.hid (show w10.heap.size = w9.heap.size + 2 by rw [← hw10]; simp)
    rw [hw10] at hx2 h16 h17
    try rw [hw10]
    have HB10 := Lib.hid hx2
    obtain ⟨q16, hq16⟩ : ∃ q, w9.heap.size = q := ⟨_, rfl⟩
    obtain ⟨q17, hq17⟩ : ∃ q, w9.heap.size + 1 = q := ⟨_, rfl⟩
    rw [hq17] at h17
    rw [hq16] at h16
    try simp only [World.size_alloc]
    try rw [hq17]
    try rw [hq16]
    have H16 := Lib.hid h16
    have H17 := Lib.hid h17
    have HQ1617 := Lib.hid (show w9.heap.size = q16 ∧ q17 = q16 + 1 from ⟨hq16, by omega⟩)
    have c7 := (HH79.out.later hx2).cell
    have cg1 := cell_stays hx2 HCG9.out
    clear hx1 hx2 h16 h17 hw10 hq16 hq17
    go_wp2_with fail
    refine (foes_any (some ⟨g9.tb, 0, none⟩) own w10).mono ?_
    rintro e w11 ⟨rfl, hd1, hd2, hb11, hs11⟩
    have HTM11 := Lib.hid ((HBD9.out.later (stepB HB10.out hb11)).tm)
    have hoff : ∀ q, q = g9.tb ∨ q = g9.s ∨ q = g9.r ∨ q = w10.heap.size ∨ q = w10.heap.size + 1 → ¬(q = q16 ∨ q = q17) ∧ Off (fun _ => False) w11 q := fun q hq => by
      have a1 := HBD9.out.tm.lt
      have a2 := HBD9.out.tm.sd.1
      have a3 := HBD9.out.tm.ltr
      have a4 := HQ1617.out
      have a5 := HS10.out
      try dsimp only at a1 a2 a3
      exact ⟨by rcases hq with h | h | h | h | h <;> omega, fun e => e, fun _ e => e.elim⟩
    have HSEQ := Lib.hid (foes_seq 8 (by omega) (fun k => k = q16 ∨ k = q17) (fun _ => False) hd1 hd2 HTM11.out hoff)
    have HI0 : Hid (SumJ w9 T2 q16 q17 [] w11) := Lib.hid ⟨stepB HB10.out hb11, H16.out.later hb11, H17.out.later hb11, Nat.zero_le _⟩
    have HS11 := Lib.hid (show q16 + 4 ≤ w11.heap.size from by have := HS10.out; have := HQ1617.out; omega)
    clear hd1 hd2 hb11 hs11 hoff c7 cg1 H16 H17
    obtain ⟨m5, hm5⟩ : ∃ m, w10.heap.size = m := ⟨_, rfl⟩
    obtain ⟨m6, hm6⟩ : ∃ m, w10.heap.size + 1 = m := ⟨_, rfl⟩
    rw [hm6] at HSEQ ⊢
    rw [hm5] at HSEQ ⊢
    clear hm5 hm6
    dsimp only at HSEQ
    go_wp2_with fail
    refine (wpIn_wide (n := 9)).1 ?_
    refine range_world3 rfl (by omega) (I := SumJ w9 T2 q16 q17) (Ix := fun _ _ _ => False) (gf := 51) (lb := _) rfl trivial (fun _ _ => by kernel_rfl) HSEQ.out KpP.trans (fun W' o o' ho hc _ => KpP.put o' (.inr rfl) ho hc) (fun W W' hb => KpP.of_below _ _ hb) (Below.refl _ _) (fun _ => rfl)
      (sumJ_own HI0.out.lo.size) (fun c s A B row hs hg hr => hs) (fun s A B row hs hg hr => hs) (fun s A B row hs hg hr => hs) HI0.out ?round2 ?done2 ?stop2
    case stop2 =>
      rintro D2 c pre W hD hS hI hK
      exact hI.elim
    case round2 =>
      rintro pre x1 W1 K hI hT hsz hK
      have HPL := Lib.hid (show pre.length + 1 ≤ 4 from by
        have h1 := hT.length_le
        have h2 := upTo_len (foeB T2 own) T2.sh.length
        have h3 := HTM11.out.n2
        unfold foesT at h1
        simp at h1
        try dsimp only at h3
        omega)
      have HK := Lib.hid hK
      clear hK hT hI
      simp only [encF]
      simp
      gi_wp2
      refine HK.out _ _ (Below.refl _ _) ?_
      clear HK
      intro Wb hsz2 hrest hkw hIb
      have HIB := Lib.hid hIb
      have HKW := Lib.hid hkw
      have k13 := hIb.box.cell
      have f13 := hIb.box.frozen
      have k7 := cell_stays hIb.lo HH79.out.cell
      have kg := cell_stays hIb.lo HCG9.out
      have HLF := Lib.hid (tlife_any ((HBD9.out.tm.later hIb.lo).later ((Below.refl Wb.heap.size Wb).drew)) x1)
      dsimp only at HLF
      have hsb := sum_bd (T := T2) (fun k => by have := HHD.out.2.2.2.1 k; omega) pre
      have hlx := HHD.out.2.2.2.1 x1
      have hpl := HPL.out
      have HSN := Lib.hid (sumT_snoc T2 pre x1)
      obtain ⟨SM, hSM⟩ : ∃ m, sumT T2 pre = m := ⟨_, rfl⟩
      obtain ⟨LX, hLX⟩ : ∃ m, lifeT T2 x1 = m := ⟨_, rfl⟩
      rw [hSM] at k13 hsb HSN
      rw [hLX] at HLF hlx HSN
      have hwr : IntKind.i64.wrap (SM + LX) = SM + LX := IntWalk.i64_in _ (by omega)
      clear hsz2 hrest hkw hIb hSM hLX
      gi_upto_region 19 with fail
      refine wpIn_region_any (by kernel_rfl) ?_
      change wpAnyIn _ _ _ _ _ _ _ _ _ (World.drew _)
      refine anyC.any (c := 8) (S := fun w' => w'.cell? ⟨q16, 0, none⟩ = some (.int .i64 SM) ∧ w'.cell? ⟨q7, 0, none⟩ = some (.pointer (some ⟨g.q, 0, none⟩)) ∧ w'.cell? ⟨g.q, 1, none⟩ = some (.pointer (some ⟨g9.tb, 0, none⟩))) ?_
      refine anyC_take [7, 8] (i := 0) (v := ?_) (by decide) (by decide) (by kernel_rfl) (by kernel_rfl) (by kernel_rfl) (by kernel_rfl) rfl (by kernel_rfl) (by kernel_rfl) (by kernel_rfl) (fun _ _ _ h => h) (by rfl) (fun _ => rfl) ?_ ?_
      rotate_left
      · intro w' hS
        obtain ⟨s0, s1, s2⟩ := hS
        go_simp
        try with_reducible rfl
      refine anyC_take [2, 3, 4, 6, 7, 8] (i := 1) (v := ?_) (by decide) (by decide) (by kernel_rfl) (by kernel_rfl) (by kernel_rfl) (by kernel_rfl) rfl (by kernel_rfl) (by kernel_rfl) (by kernel_rfl) (fun _ _ _ h => h) (by rfl) (fun _ => rfl) ?_ ?_
      rotate_left
      · intro w' hS
        obtain ⟨s0, s1, s2⟩ := hS
        go_simp
        try with_reducible rfl
      refine anyC_take [3, 4, 6, 7, 8] (i := 2) (v := ?_) (by decide) (by decide) (by kernel_rfl) (by kernel_rfl) (by kernel_rfl) (by kernel_rfl) rfl (by kernel_rfl) (by kernel_rfl) (by kernel_rfl) (fun _ _ _ h => h) (by rfl) (fun _ => rfl) ?_ ?_
      rotate_left
      · intro w' hS
        go_simp
        try with_reducible rfl
      refine anyC_take [4, 6, 7, 8] (i := 3) (v := ?_) (by decide) (by decide) (by kernel_rfl) (by kernel_rfl) (by kernel_rfl) (by kernel_rfl) rfl (by kernel_rfl) (by kernel_rfl) (by kernel_rfl) (fun _ _ _ h => h) (by rfl) (fun _ => rfl) ?_ ?_
      rotate_left
      · intro w' hS
        go_simp
        try with_reducible rfl
      refine anyC_take [6, 7, 8] (i := 4) (v := ?_) (by decide) (by decide) (by kernel_rfl) (by kernel_rfl) (by kernel_rfl) (by kernel_rfl) rfl (by kernel_rfl) (by kernel_rfl) (by kernel_rfl) (fun _ _ _ h => h) (by rfl) (fun _ => rfl) ?_ ?_
      rotate_left
      · intro w' hS
        obtain ⟨s0, s1, s2⟩ := hS
        go_simp
        try with_reducible rfl
      refine anyC_take [6, 7, 8] (i := 5) (v := ?_) (by decide) (by decide) (by kernel_rfl) (by kernel_rfl) (by kernel_rfl) (by kernel_rfl) rfl (by kernel_rfl) (by kernel_rfl) (by kernel_rfl) (fun _ _ _ h => h) (by rfl) (fun _ => rfl) ?_ ?_
      rotate_left
      · intro w' hS
        go_simp
        try with_reducible rfl
      refine anyC_one (i := 6) (by kernel_rfl) rfl (fun _ => ⟨cell_stays (Below.refl Wb.heap.size Wb).drew k13, cell_stays (Below.refl Wb.heap.size Wb).drew k7, cell_stays (Below.refl Wb.heap.size Wb).drew kg⟩) (fun K hK => ?_)
      go_simp
      gi_wp2_with ((refine ⟨trivial, ?_⟩; gi_at_call 26; refine CallsIn.mono (F := Fence.wide) (callsIn_wide.2 (HLF.out)) ?_; rintro e w9 ⟨rfl, rfl⟩; dsimp only))
      refine anyC_take [8] (i := 7) (v := ?_) (by decide) (by decide) (by kernel_rfl) (by kernel_rfl) (by kernel_rfl) (by kernel_rfl) rfl (by kernel_rfl) (by kernel_rfl) (by kernel_rfl) (fun _ _ _ h => h) (by rfl) (fun _ => rfl) ?_ ?_
      rotate_left
      · intro w' hS
        go_simp
        try with_reducible rfl
      refine anyC_one (i := 8) (by kernel_rfl) rfl (fun _ => ⟨cell_stays (Below.refl Wb.heap.size Wb).drew k13, cell_stays (Below.refl Wb.heap.size Wb).drew k7, cell_stays (Below.refl Wb.heap.size Wb).drew kg⟩) (fun K hK => ?_)
      go_simp
      refine hK _ _ ?_
      clear hK K
      refine anyC_done (by kernel_rfl) (fun h => absurd ((show Array.getD _ 8 true = true by kernel_rfl).symm.trans h) (by decide)) ?_ _
      have hdr := (Below.refl Wb.heap.size Wb).drew
      have hne : q17 ≠ q16 := by have := HQ1617.out; omega
      have HST : Hid (KpP (fun k => k = q16) (fun _ => False) Wb.drew (Wb.setCell ⟨q16, 0, none⟩ (.int .i64 (SM + LX))).drew) := Lib.hid (kpP_setE (W := Wb.drew) (l := q16) (.int .i64 (SM + LX)))
      have hc17 : HdAt (Wb.setCell ⟨q16, 0, none⟩ (.int .i64 (SM + LX))).drew q17 (.int .i64 (pre.length : Int)) := (show HdAt (Wb.drew.setCell ⟨q16, 0, none⟩ (.int .i64 (SM + LX))) q17 (.int .i64 (pre.length : Int)) from (HIB.out.cnt.later hdr).other hne _)
      have k17 := hc17.cell
      have f17 := hc17.frozen
      have hwr2 : IntKind.i64.wrap ((pre.length : Int) + 1) = (pre.length : Int) + 1 := IntWalk.i64_in _ (by omega)
      have HC17 := Lib.hid hc17
      obtain ⟨Wc, hWc⟩ : ∃ Wc, (Wb.setCell ⟨q16, 0, none⟩ (.int .i64 (SM + LX))).drew = Wc := ⟨_, rfl⟩
      have HLO := Lib.hid (show Below w9.heap.size w9 Wc from by rw [← hWc]; exact (show Below w9.heap.size w9 (Wb.drew.setCell ⟨q16, 0, none⟩ (.int .i64 (SM + LX))) from (HIB.out.lo.drew).setCell (by have := HQ1617.out; show w9.heap.size ≤ q16; omega) _))
      have HBX := Lib.hid (show HdAt Wc q16 (.int .i64 (SM + LX)) from by rw [← hWc]; exact (show HdAt (Wb.drew.setCell ⟨q16, 0, none⟩ (.int .i64 (SM + LX))) q16 (.int .i64 (SM + LX)) from (HIB.out.box.later hdr).set _))
      rw [hWc] at HST k17 f17 HC17 ⊢
      have HST2 := Lib.hid (kpP_setE (W := Wc) (l := q17) (.int .i64 ((pre.length : Int) + 1)))
      have HKK := Lib.hid (((KpP.of_below (fun k => k = q16 ∨ k = q17) (fun _ => False) hdr).trans (HST.out.mono (fun k e => .inl e))).trans (HST2.out.mono (fun k e => .inr e)))
      have HNI : Hid (SumJ w9 T2 q16 q17 (pre ++ [x1]) (Wc.setCell ⟨q17, 0, none⟩ (.int .i64 ((pre.length : Int) + 1)))) := Lib.hid ⟨HLO.out.setCell (by have := HQ1617.out; show w9.heap.size ≤ q17; omega) _, by rw [HSN.out]; exact HBX.out.other hne.symm _, by rw [List.length_append]; exact HC17.out.set _, by rw [List.length_append]; exact HPL.out⟩
      clear hWc hdr hne hc17
      gi_wp2
      exact ⟨HKK.out.from (fun k e => by have := HS11.out; have := HQ1617.out; omega), HKW.out.trans (HKK.out.mono (fun k e => .inl e)), HNI.out⟩
    case done2 =>
      rintro D2 ys W12 hD hS hI hK
      subst hS
      have HI12 := Lib.hid hI
      have HSZW := Lib.hid (show w11.heap.size ≤ W12.heap.size from by have := (Array.getElem?_eq_some_iff.1 hK).1; omega)
      have HK12 := Lib.hid (And.intro hD hK)
      clear hI hK hD
      rw [HHD.out.2.2.1] at HI12
      have hlo := HI12.out.lo
      have c7 := (HH79.out.later hlo).cell
      have cg1 := cell_stays hlo HCG9.out
      have c13 := (HH139.out.later hlo).cell
      have c16 := HI12.out.box.cell
      have c17 := HI12.out.cnt.cell
      have hFl := HI12.out.len
      have hHD := HHD.out
      have hsb := sum_bd (T := T) (fun k => by have := HTL.out k; omega) F
      have HLF2 := Lib.hid (tlife_any (HBD9.out.later hlo).tm own)
      dsimp only at HLF2
      rw [hHD.1] at HLF2
      rw [hHD.2.1] at c16
      obtain ⟨FL, hFL⟩ : ∃ m, F.length = m := ⟨_, rfl⟩
      obtain ⟨SF, hSF⟩ : ∃ m, sumT T F = m := ⟨_, rfl⟩
      rw [hFL] at c16 c17 hFl hsb
      rw [hSF] at c16 c13 hsb
      have hm1 : FL * y ≤ 4 * 20 := Nat.mul_le_mul hFl hy20
      have hm2 : ((FL : Int) * (y : Int)) = ((FL * y : Nat) : Int) := by push_cast; rfl
      obtain ⟨FY, hFY⟩ : ∃ m, FL * y = m := ⟨_, rfl⟩
      rw [hFY] at hm1 hm2
      rw [hm2] at c16
      have hw0 := HWAS.out
      have hw1 : IntKind.i64.wrap (was + (x : Int)) = was + (x : Int) := IntWalk.i64_in _ (by omega)
      have hw2 : IntKind.i64.wrap ((FL : Int) * (y : Int)) = (FY : Int) := by rw [hm2]; exact IntWalk.i64_in _ (by omega)
      have hw3 : IntKind.i64.wrap (SF - (FY : Int)) = SF - (FY : Int) := IntWalk.i64_in _ (by omega)
      have e1 : ((was + (x : Int)) != was + (x : Int)) = false := bne_self_eq_false _
      have e2 : ((SF - (FY : Int)) != SF - (FY : Int)) = false := bne_self_eq_false _
      have HKD := Lib.hid (show W12.heap[D]? = some (.deferred (some [])) from (hlo.block D HDD.out.2).trans HKD9.out)
      have HBW12 := Lib.hid (stepB HBW9.out hlo)
      clear hHD hlo hFL hSF hFY hm2 hsb hw0
      go_wp2_with fail
      refine HLF2.out.mono ?_
      rintro e w12 ⟨rfl, rfl⟩
      go_upto_region 23 with fail
      have hlo := HI12.out.lo
      have HBD12 := Lib.hid (HBD9.out.later hlo)
      have hq9 := HQ9.out
      have cg0 : w12.cell? ⟨g.q, 0, none⟩ = some (.pointer (some ⟨g9.b, 0, none⟩)) := by have := HBD12.out.cells.1; rwa [hq9] at this
      have HMK := Lib.hid (show D ≠ D2 ∧ W.heap.size ≤ D ∧ w9.heap.size ≤ D2 ∧ w12.heap[D2]? = some (.deferred (some [])) from ⟨by have := HDD.out.2; have := HI0.out.lo.size; have := HK12.out.1; omega, by have := HDD.out.1; have := HQ7.out; have := HS4.out; omega, Nat.le_trans HI0.out.lo.size HK12.out.1, HK12.out.2⟩)
      have HHB := Lib.hid ((HH79.out.later hlo))
      have HSZ12 := Lib.hid (show w11.heap.size ≤ w12.heap.size from HSZW.out)
      have HS40 := Lib.hid (show (madeF l).objs.length ≤ 999 from HBD12.out.len)
      have HOL9 := Lib.hid (show ∀ k, g9.own k → w.heap.size ≤ k ∧ k < w9.heap.size from fun k hk => ⟨Nat.le_trans HLW.out (HBD9.out.ownLo hk), HBD9.out.ownLt hk⟩)
      clear hlo c13 c16 c17 cg1 e1 e2 hw1 hw2 hw3 HI12 HK12 HLF2
      by_cases hE : creE (madeF l) (n2 : Int) = 0
      case neg =>
        have hget : ∃ (o : ObjL) (er : Int), ∀ (w' : World) (lo' : Nat) (g' : GhostB), BoardAt w' lo' g' ⟨madeF l, T2, dry0⟩ → Calls Tryz.prog 12 #[.pointer (some ⟨g'.b, 0, none⟩), .int .i64 (n2 : Int)] w' (RetGet w' o er) := by
          have hS := HS40.out
          by_cases hh : hasS (madeF l) (n2 : Int)
          · obtain ⟨j, hj⟩ : ∃ j : Nat, (n2 : Int) = (j : Int) + 1 := ⟨n2 - 1, by have := hh.1; omega⟩
            rw [hj]
            have hjl : j < (madeF l).objs.length := by have := hh.2; omega
            exact ⟨_, _, fun w' lo' g' hb => get_in hb.st (by show (madeF l).objs.length ≤ 1000; omega) j hjl⟩
          · exact ⟨_, _, fun w' lo' g' hb => get_out hb.st (by show (madeF l).objs.length ≤ 1000; omega) _ (by show (n2 : Int) < 1 ∨ ((madeF l).objs.length : Int) < n2; unfold hasS at hh; omega)⟩
        obtain ⟨o, er, hget⟩ := hget
        have HG1 := Lib.hid (fun (w' : World) (hb : Below w12.heap.size w12 w') => hget w' _ g9 (HBD12.out.later hb))
        obtain ⟨z, hz⟩ : ∃ z : ObjL, o = z := ⟨_, rfl⟩
        have HG2 := Lib.hid (show ∀ (w' : World) (lo' : Nat) (g' : GhostB), BoardAt w' lo' g' ⟨madeF l, T2, dry0⟩ → Calls Tryz.prog 12 #[.pointer (some ⟨g'.b, 0, none⟩), .int .i64 (n2 : Int)] w' (RetGet w' z er) from hz ▸ hget)
        have hcan : canB ⟨madeF l, T2, dry0⟩ s ⟨6, 0, 1⟩ n2 = false := by
          cases hc : canB ⟨madeF l, T2, dry0⟩ s ⟨6, 0, 1⟩ (n2 : Int) with
          | false => rfl
          | true => exact absurd (can_cre hc (.inl rfl)) hE
        have HDO := Lib.hid (fun (w' : World) (hb : Below w12.heap.size w12 w') => show Calls Tryz.prog 11 #[.pointer (some ⟨g.q, 0, none⟩), .int .i64 s, .agg #[.int .i64 6, .int .i64 0, .int .i64 1], .int .i64 (n2 : Int)] w' (fun e w'' => e = .returned (.bool false) ∧ ∃ g', BoardAt w'' lo g' ⟨madeF l, T2, dry0⟩ ∧ TurnedB w' w'' g9 g' ∧ g'.q = g.q) from by
          have := do_any (HBD12.out.later hb) s ⟨6, 0, 1⟩ n2
          unfold doB RetBd at this
          rw [hcan, if_neg Bool.false_ne_true, hq9] at this
          exact this)
        clear hget hE hcan hq9 hz
        unfold RetGet oagg at HG1 HG2
        obtain ⟨x0, xa1, x2, x3, x4, x5, x6, x7, x8, x9, x10⟩ := o
        obtain ⟨z0, z1, z2, z3, z4, z5, z6, z7, z8, z9, z10⟩ := z
        dsimp only at HG1 HG2
        go_wp2_with fail
        refine (HG1.out w12 (Below.refl _ _)).mono ?_
        rintro e w13 ⟨rfl, hb13⟩
        have hb14 := stepB hb13 (below_new w13 (.cells #[.int .i64 x0, .int .i64 xa1, .int .i64 x2, .int .i64 x3, .bool x4, .bool x5, .int .i64 x6, .int .i64 x7, .int .i64 x8, .int .i64 x9, .bool x10] 35))
        have h14 := heap_alloc_new w13 (.cells #[.int .i64 x0, .int .i64 xa1, .int .i64 x2, .int .i64 x3, .bool x4, .bool x5, .int .i64 x6, .int .i64 x7, .int .i64 x8, .int .i64 x9, .bool x10] 35)
        dsimp only
        go_upto_region 24 with fail
        obtain ⟨w14, hw14⟩ : ∃ w14, w13.alloc (.cells #[.int .i64 x0, .int .i64 xa1, .int .i64 x2, .int .i64 x3, .bool x4, .bool x5, .int .i64 x6, .int .i64 x7, .int .i64 x8, .int .i64 x9, .bool x10] 35) = w14 := ⟨_, rfl⟩
        rw [hw14] at hb14 h14
        try rw [hw14]
        obtain ⟨q19, hq19⟩ : ∃ q, w13.heap.size = q := ⟨_, rfl⟩
        rw [hq19] at h14
        try rw [hq19]
        have HB14 := Lib.hid hb14
        have H14 := Lib.hid h14
        have HQ19 := Lib.hid (show w12.heap.size ≤ q19 ∧ q19 < w14.heap.size from ⟨by have := hb13.size; omega, (Array.getElem?_eq_some_iff.1 h14).1⟩)
        have c7 := cell_stays hb14 c7
        clear hb13 hb14 h14 hw14 hq19 cg0
        go_wp2_with fail
        refine (HDO.out w14 HB14.out).mono ?_
        rintro e w15 ⟨rfl, g15, hb15, ht15, hq15⟩
        have hno : ∀ k, w9.heap.size ≤ k → ¬g9.own k := fun k hk e => by have := (HOL9.out k e).2; omega
        have hW12 : w9.heap.size ≤ w12.heap.size := Nat.le_trans HI0.out.lo.size (by have := (Array.getElem?_eq_some_iff.1 HMK.out.2.2.2).1; have := HMK.out.2.2.1; exact HSZ12.out)
        have hkeep : ∀ (k : Nat) (ob : Obj), w14.heap[k]? = some ob → ¬g9.own k → w15.heap[k]? = some ob := fun k ob ho hn =>
          (ht15.keeps (Array.getElem?_eq_some_iff.1 ho).1 hn).1.trans ho
        have HB15 := Lib.hid hb15
        have HBW15 := Lib.hid (ht15.below (stepB HBW12.out HB14.out) (fun k hk => (HOL9.out k hk).1))
        have h7 : HdAt w15 q7 (.pointer (some ⟨g.q, 0, none⟩)) := by
          obtain ⟨t, ht⟩ := HHB.out.later HB14.out
          exact ⟨t, hkeep q7 _ ht (HNO9.out q7 (Nat.le_refl _) HLT7.out.1)⟩
        have c7 := h7.cell
        have H19 := Lib.hid (hkeep q19 _ H14.out (hno q19 (by have := HQ19.out; omega)))
        have hD1 := hkeep D _ ((HB14.out.block D (Array.getElem?_eq_some_iff.1 HKD.out).1).trans HKD.out) (HNO9.out D (by have := HDD.out.1; have := HS4.out; omega) HLT7.out.2)
        have hD2 := hkeep D2 _ ((HB14.out.block D2 (Array.getElem?_eq_some_iff.1 HMK.out.2.2.2).1).trans HMK.out.2.2.2) (hno D2 HMK.out.2.2.1)
        have HD := Lib.hid (And.intro hD1 hD2)
        have cg0 : w15.cell? ⟨g.q, 0, none⟩ = some (.pointer (some ⟨g15.b, 0, none⟩)) := by have := hb15.cells.1; rwa [hq15] at this
        have HQ15 := Lib.hid hq15
        clear hb15 ht15 hq15 hno hW12 hkeep h7 hD1 hD2
        dsimp only
        go_wp2_with fail
        refine (HG2.out w15 _ g15 HB15.out).mono ?_
        rintro e w16 ⟨rfl, hb16⟩
        have hb17 := stepB hb16 (below_new w16 (.cells #[.int .i64 z0, .int .i64 z1, .int .i64 z2, .int .i64 z3, .bool z4, .bool z5, .int .i64 z6, .int .i64 z7, .int .i64 z8, .int .i64 z9, .bool z10] 35))
        have h17 := heap_alloc_new w16 (.cells #[.int .i64 z0, .int .i64 z1, .int .i64 z2, .int .i64 z3, .bool z4, .bool z5, .int .i64 z6, .int .i64 z7, .int .i64 z8, .int .i64 z9, .bool z10] 35)
        dsimp only
        go_upto_region 26 with fail
        obtain ⟨w17, hw17⟩ : ∃ w17, w16.alloc (.cells #[.int .i64 z0, .int .i64 z1, .int .i64 z2, .int .i64 z3, .bool z4, .bool z5, .int .i64 z6, .int .i64 z7, .int .i64 z8, .int .i64 z9, .bool z10] 35) = w17 := ⟨_, rfl⟩
        rw [hw17] at hb17 h17
        try rw [hw17]
        obtain ⟨q22, hq22⟩ : ∃ q, w16.heap.size = q := ⟨_, rfl⟩
        rw [hq22] at h17
        try rw [hq22]
        have HB17 := Lib.hid hb17
        have H17b := Lib.hid h17
        have HBW17 := Lib.hid (stepB HBW15.out hb17)
        have HD17 := Lib.hid (And.intro ((hb17.block D (Array.getElem?_eq_some_iff.1 HD.out.1).1).trans HD.out.1) ((hb17.block D2 (Array.getElem?_eq_some_iff.1 HD.out.2).1).trans HD.out.2))
        have c7 := cell_stays hb17 c7
        have cg0 := cell_stays hb17 cg0
        clear hb16 hb17 h17 hw17 hq22
        clear c7 cg0
        go_region
        have HBF := Lib.hid HBW17.out.drew
        have HDF := Lib.hid (show w17.drew.heap[D]? = some (.deferred (some [])) ∧ w17.drew.heap[D2]? = some (.deferred (some [])) from HD17.out)
        go_wp2
        refine leaves_marksO (B := w.heap.size) [D2, D] _ (by simp; have := HMK.out.1; omega) (fun D' hD' => by have h1 := HMK.out.2.1; have h2 := HMK.out.2.2.1; have h3 := HBW9.out.size; have h4 := HSZ.out; simp at hD'; omega) (fun D' hD' => by simp at hD'; rcases hD' with rfl | rfl; exact HDF.out.2; exact HDF.out.1) (fun W' hb hc => ?_)
        exact ⟨_, results_tmp rfl _ _ _, rfl, HBF.out.trans hb⟩
      case pos =>
        obtain ⟨j, hj, hn2, ho, hlv⟩ := creE_live hE
        have hid := HM.out.wf.ids j hj
        have hS := HS40.out
        have hmv : moveI (madeF l) (n2 : Int) 5 = moveL (madeF l) j (madeF l).objs[j] 5 false := by rw [hn2]; exact moveI_at hj 5
        have hwf : WfS (moveI (madeF l) (n2 : Int) 5) := by rw [hmv]; exact HM.out.wf.move hj (by omega) (by omega) false
        have hjl : j < (moveI (madeF l) (n2 : Int) 5).objs.length := by rw [hmv]; simp [moveL]; exact hj
        have hzz : (moveI (madeF l) (n2 : Int) 5).objs[j] = freshO (madeF l).T ((j : Int) + 1) (madeF l).objs[j].card (madeF l).objs[j].owner 5 := by simp only [hmv, moveL, List.getElem_set_self]; rfl
        have hss : (moveI (madeF l) (n2 : Int) 5).seats = 4 := by rw [hmv]; exact HM.out.seats
        have hlm : (moveI (madeF l) (n2 : Int) 5).objs.length = (madeF l).objs.length := by rw [hmv]; simp [moveL]
        have HG1 := Lib.hid (fun (w' : World) (hb : Below w12.heap.size w12 w') => show Calls Tryz.prog 12 #[.pointer (some ⟨g9.b, 0, none⟩), .int .i64 (n2 : Int)] w' (RetGet w' (madeF l).objs[j] 0) from by
          rw [hn2]
          exact get_in (HBD12.out.later hb).st (by show (madeF l).objs.length ≤ 1000; omega) j hj)
        have HG2 := Lib.hid (show ∀ (w' : World) (lo' : Nat) (g' : GhostB), BoardAt w' lo' g' ⟨moveI (madeF l) (n2 : Int) 5, T2, dry0⟩ → Calls Tryz.prog 12 #[.pointer (some ⟨g'.b, 0, none⟩), .int .i64 (n2 : Int)] w' (RetGet w' (moveI (madeF l) (n2 : Int) 5).objs[j] 0) from fun w' lo' g' hb => by
          have := get_in hb.st (by show (moveI (madeF l) (n2 : Int) 5).objs.length ≤ 1000; omega) j hjl
          rwa [← hn2] at this)
        have hown2 : 0 ≤ ofT T2 s := by
          have h1 : ofT T2 (s : Int) = ofT T s := by rw [← HTE.out]; unfold drainT ofT; rw [(drain_flags _ _ _).2, gain_sides]
          rw [h1, ← HTT.out]
          exact sides_of n0 (by omega)
        have hcan : canB ⟨madeF l, T2, dry0⟩ s ⟨6, 0, 1⟩ n2 = true := by
          unfold canB
          rw [show hasT ⟨madeF l, T2, dry0⟩ (s : Int) = true from decide_eq_true ⟨by omega, by show (s : Int) < (madeF l).seats; rw [HM.out.seats]; omega⟩, show Crd.termB ⟨6, 0, 1⟩ = true from by decide]
          simp [chkT, mayT, hE, show ¬ ofT T2 (s : Int) < 0 by omega]
        have HDO := Lib.hid (fun (w' : World) (hb : Below w12.heap.size w12 w') => show Calls Tryz.prog 11 #[.pointer (some ⟨g.q, 0, none⟩), .int .i64 s, .agg #[.int .i64 6, .int .i64 0, .int .i64 1], .int .i64 (n2 : Int)] w' (fun e w'' => e = .returned (.bool true) ∧ ∃ g', BoardAt w'' lo g' ⟨moveI (madeF l) (n2 : Int) 5, T2, dry0⟩ ∧ TurnedB w' w'' g9 g' ∧ g'.q = g.q) from by
          have := do_any (HBD12.out.later hb) s ⟨6, 0, 1⟩ n2
          unfold doB RetBd at this
          rw [hcan, if_pos rfl, hq9] at this
          exact this)
        obtain ⟨La, hLa⟩ : ∃ La, (moveI (madeF l) (n2 : Int) 5).pl (madeF l).objs[j].owner.toNat 5 = La := ⟨_, rfl⟩
        obtain ⟨Lb, hLb⟩ : ∃ Lb, (moveI (madeF l) (n2 : Int) 5).pl 0 3 = Lb := ⟨_, rfl⟩
        have hok5 : okK (moveI (madeF l) (n2 : Int) 5).seats (madeF l).objs[j].owner.toNat 5 := by rw [hss]; have := HM.out.seats; refine ⟨by omega, by omega, by omega, by omega⟩
        have hok3 : okK (moveI (madeF l) (n2 : Int) 5).seats 0 3 := by rw [hss]; exact ⟨by omega, by omega, by omega, by omega⟩
        have hma : (n2 : Int) ∈ La := by
          rw [← hLa, hwf.mem _ _ hok5]
          refine ⟨j, hjl, hn2, ?_, ?_⟩
          · rw [hzz]
            unfold keyS canN
            simp [freshO]
          · rw [hzz]; simp [freshO]
        have hmb : ¬((n2 : Int) ∈ Lb) := by
          rw [← hLb, hwf.mem _ _ hok3]
          rintro ⟨k, hk, e1, _, e3⟩
          obtain rfl : k = j := by omega
          rw [hzz] at e3
          simp [freshO] at e3
        have hsh := hwf.short (by omega)
        have hla : La.length ≤ 1000 := by rw [← hLa]; exact hsh.2 _ _ hok5
        have hlb : Lb.length ≤ 1000 := by rw [← hLb]; exact hsh.2 _ _ hok3
        have HHA := Lib.hid (fun (w' : World) (u : Value) (hu : IntsAt w' u La) => show Calls Tryz.prog 27 #[u, .int .i64 (n2 : Int)] w' (Same w' (.bool true)) from by
          have := hasRef_any (n2 : Int) hu hla
          rwa [decide_eq_true hma] at this)
        have HHC := Lib.hid (fun (w' : World) (u : Value) (hu : IntsAt w' u Lb) => show Calls Tryz.prog 27 #[u, .int .i64 (n2 : Int)] w' (Same w' (.bool false)) from by
          have := hasRef_any (n2 : Int) hu hlb
          rwa [decide_eq_false hmb] at this)
        obtain ⟨ow, how⟩ : ∃ ow, (madeF l).objs[j].owner = ow := ⟨_, rfl⟩
        have how4 : 0 ≤ ow ∧ ow < 4 := by have := HM.out.seats; omega
        have hia : inL (moveI (madeF l) (n2 : Int) 5) ow 5 = La := by
          unfold inL
          rw [show canS ow 5 = ow by unfold canS; rw [if_neg (by decide)], if_pos ⟨how4.1, by decide, by rw [← how]; exact hok5⟩, ← hLa, how]
          rfl
        have hib : inL (moveI (madeF l) (n2 : Int) 5) 0 3 = Lb := by
          unfold inL
          rw [if_pos (by rw [hss]; decide), ← hLb]
          rfl
        have HIA := Lib.hid (fun (w' : World) (lo' : Nat) (g' : GhostB) (hb : BoardAt w' lo' g' ⟨moveI (madeF l) (n2 : Int) 5, T2, dry0⟩) => show Calls Tryz.prog 28 #[.pointer (some ⟨g'.b, 0, none⟩), .int .i64 ow, .int .i64 5] w' (RetList w' La) from by
          have := in_any hb.st hsh (s := ow) (z := 5) ⟨by omega, by omega⟩ ⟨by decide, by decide⟩
          rwa [hia] at this)
        have HIB := Lib.hid (fun (w' : World) (lo' : Nat) (g' : GhostB) (hb : BoardAt w' lo' g' ⟨moveI (madeF l) (n2 : Int) 5, T2, dry0⟩) => show Calls Tryz.prog 28 #[.pointer (some ⟨g'.b, 0, none⟩), .int .i64 0, .int .i64 3] w' (RetList w' Lb) from by
          have := in_any hb.st hsh (s := 0) (z := 3) ⟨by decide, by decide⟩ ⟨by decide, by decide⟩
          rwa [hib] at this)
        obtain ⟨o, hoo⟩ : ∃ o, (madeF l).objs[j] = o := ⟨_, rfl⟩
        obtain ⟨z, hz⟩ : ∃ z, (moveI (madeF l) (n2 : Int) 5).objs[j] = z := ⟨_, rfl⟩
        have HZ := Lib.hid (show o.owner = ow ∧ z.owner = ow ∧ z.zone = 5 from ⟨by rw [← hoo]; exact how, by rw [← hz, hzz]; simp [freshO]; exact how, by rw [← hz, hzz]; simp [freshO]⟩)
        rw [hoo] at HG1
        rw [hz] at HG2
        clear hid hS hmv hwf hjl hzz hss hlm hown2 hcan hok5 hok3 hma hmb hsh hla hlb how how4 hia hib hoo hz hLa hLb hE hj hn2 ho hlv hq9
        unfold RetGet oagg at HG1 HG2
        obtain ⟨x0, xa1, x2, x3, x4, x5, x6, x7, x8, x9, x10⟩ := o
        obtain ⟨z0, z1, z2, z3, z4, z5, z6, z7, z8, z9, z10⟩ := z
        dsimp only at HG1 HG2
        go_wp2_with fail
        refine (HG1.out w12 (Below.refl _ _)).mono ?_
        rintro e w13 ⟨rfl, hb13⟩
        have hb14 := stepB hb13 (below_new w13 (.cells #[.int .i64 x0, .int .i64 xa1, .int .i64 x2, .int .i64 x3, .bool x4, .bool x5, .int .i64 x6, .int .i64 x7, .int .i64 x8, .int .i64 x9, .bool x10] 35))
        have h14 := heap_alloc_new w13 (.cells #[.int .i64 x0, .int .i64 xa1, .int .i64 x2, .int .i64 x3, .bool x4, .bool x5, .int .i64 x6, .int .i64 x7, .int .i64 x8, .int .i64 x9, .bool x10] 35)
        dsimp only
        go_upto_region 24 with fail
        obtain ⟨w14, hw14⟩ : ∃ w14, w13.alloc (.cells #[.int .i64 x0, .int .i64 xa1, .int .i64 x2, .int .i64 x3, .bool x4, .bool x5, .int .i64 x6, .int .i64 x7, .int .i64 x8, .int .i64 x9, .bool x10] 35) = w14 := ⟨_, rfl⟩
        rw [hw14] at hb14 h14
        try rw [hw14]
        obtain ⟨q19, hq19⟩ : ∃ q, w13.heap.size = q := ⟨_, rfl⟩
        rw [hq19] at h14
        try rw [hq19]
        have HB14 := Lib.hid hb14
        have H14 := Lib.hid h14
        have HQ19 := Lib.hid (show w12.heap.size ≤ q19 ∧ q19 < w14.heap.size from ⟨by have := hb13.size; omega, (Array.getElem?_eq_some_iff.1 h14).1⟩)
        have c7 := cell_stays hb14 c7
        clear hb13 hb14 h14 hw14 hq19 cg0
        go_wp2_with fail
        refine (HDO.out w14 HB14.out).mono ?_
        rintro e w15 ⟨rfl, g15, hb15, ht15, hq15⟩
        have hno : ∀ k, w9.heap.size ≤ k → ¬g9.own k := fun k hk e => by have := (HOL9.out k e).2; omega
        have hW12 : w9.heap.size ≤ w12.heap.size := Nat.le_trans HI0.out.lo.size (by have := (Array.getElem?_eq_some_iff.1 HMK.out.2.2.2).1; have := HMK.out.2.2.1; exact HSZ12.out)
        have hkeep : ∀ (k : Nat) (ob : Obj), w14.heap[k]? = some ob → ¬g9.own k → w15.heap[k]? = some ob := fun k ob ho hn =>
          (ht15.keeps (Array.getElem?_eq_some_iff.1 ho).1 hn).1.trans ho
        have HB15 := Lib.hid hb15
        have HBW15 := Lib.hid (ht15.below (stepB HBW12.out HB14.out) (fun k hk => (HOL9.out k hk).1))
        have h7 : HdAt w15 q7 (.pointer (some ⟨g.q, 0, none⟩)) := by
          obtain ⟨t, ht⟩ := HHB.out.later HB14.out
          exact ⟨t, hkeep q7 _ ht (HNO9.out q7 (Nat.le_refl _) HLT7.out.1)⟩
        have c7 := h7.cell
        have H19 := Lib.hid (hkeep q19 _ H14.out (hno q19 (by have := HQ19.out; omega)))
        have hD1 := hkeep D _ ((HB14.out.block D (Array.getElem?_eq_some_iff.1 HKD.out).1).trans HKD.out) (HNO9.out D (by have := HDD.out.1; have := HS4.out; omega) HLT7.out.2)
        have hD2 := hkeep D2 _ ((HB14.out.block D2 (Array.getElem?_eq_some_iff.1 HMK.out.2.2.2).1).trans HMK.out.2.2.2) (hno D2 HMK.out.2.2.1)
        have HD := Lib.hid (And.intro hD1 hD2)
        have cg0 : w15.cell? ⟨g.q, 0, none⟩ = some (.pointer (some ⟨g15.b, 0, none⟩)) := by have := hb15.cells.1; rwa [hq15] at this
        have HQ15 := Lib.hid hq15
        clear hb15 ht15 hq15 hno hW12 hkeep h7 hD1 hD2
        dsimp only
        go_wp2_with fail
        refine (HG2.out w15 _ g15 HB15.out).mono ?_
        rintro e w16 ⟨rfl, hb16⟩
        have hb17 := stepB hb16 (below_new w16 (.cells #[.int .i64 z0, .int .i64 z1, .int .i64 z2, .int .i64 z3, .bool z4, .bool z5, .int .i64 z6, .int .i64 z7, .int .i64 z8, .int .i64 z9, .bool z10] 35))
        have h17 := heap_alloc_new w16 (.cells #[.int .i64 z0, .int .i64 z1, .int .i64 z2, .int .i64 z3, .bool z4, .bool z5, .int .i64 z6, .int .i64 z7, .int .i64 z8, .int .i64 z9, .bool z10] 35)
        dsimp only
        go_upto_region 26 with fail
        obtain ⟨w17, hw17⟩ : ∃ w17, w16.alloc (.cells #[.int .i64 z0, .int .i64 z1, .int .i64 z2, .int .i64 z3, .bool z4, .bool z5, .int .i64 z6, .int .i64 z7, .int .i64 z8, .int .i64 z9, .bool z10] 35) = w17 := ⟨_, rfl⟩
        rw [hw17] at hb17 h17
        try rw [hw17]
        obtain ⟨q22, hq22⟩ : ∃ q, w16.heap.size = q := ⟨_, rfl⟩
        rw [hq22] at h17
        try rw [hq22]
        have HB17 := Lib.hid hb17
        have H17b := Lib.hid h17
        have HBW17 := Lib.hid (stepB HBW15.out hb17)
        have HD17 := Lib.hid (And.intro ((hb17.block D (Array.getElem?_eq_some_iff.1 HD.out.1).1).trans HD.out.1) ((hb17.block D2 (Array.getElem?_eq_some_iff.1 HD.out.2).1).trans HD.out.2))
        have c7 := cell_stays hb17 c7
        have cg0 := cell_stays hb17 cg0
        clear hb16 hb17 h17 hw17 hq22
        obtain ⟨y1, y2, y3⟩ := HZ.out
        try dsimp only at y1 y2 y3
        subst y1
        have ez : z2 = x2 := y2
        subst ez y3
        have a19 := fun k => cell_of_row w17 q19 k _ _ _ ((HB17.out.block q19 (Array.getElem?_eq_some_iff.1 H19.out).1).trans H19.out)
        have a22 := fun k => cell_of_row w17 q22 k _ _ _ H17b.out
        have HI := Lib.hid (show _ ∧ _ ∧ _ ∧ _ ∧ _ ∧ _ from ⟨Below.refl w17.heap.size w17, c7, cg0, a19 2, a22 3, a22 2⟩)
        have HB15L := Lib.hid (fun (w' : World) (hb : Below w17.heap.size w17 w') => HB15.out.later (stepB HB17.out hb))
        clear a19 a22 c7 cg0
        go_region_held3 (fun w' => Below w17.heap.size w17 w' ∧ w'.cell? ⟨q7, 0, none⟩ = some (.pointer (some ⟨g.q, 0, none⟩)) ∧ w'.cell? ⟨g.q, 0, none⟩ = some (.pointer (some ⟨g15.b, 0, none⟩)) ∧ w'.cell? ⟨q19, 2, none⟩ = some (.int .i64 z2) ∧ w'.cell? ⟨q22, 3, none⟩ = some (.int .i64 5) ∧ w'.cell? ⟨q22, 2, none⟩ = some (.int .i64 z2))
          (first | assumption | (with_reducible exact HI.out) | exact keepB5 ((Below.refl _ _).drew) HI.out | exact keepB5 (by assumption) (by assumption))
          (first
            | (go_at_call 28; (with_reducible refine (HIA.out _ _ _ (HB15L.out _ (And.left (by assumption)))).mono ?_); rintro e w18 ⟨v18, rfl, ho18, hb18⟩; obtain ⟨xa18, xc18, rfl⟩ := own_form ho18)
            | (go_at_call 28; (with_reducible refine (HIB.out _ _ _ (HB15L.out _ (And.left (by assumption)))).mono ?_); rintro e w19 ⟨v19, rfl, ho19, hb19⟩; obtain ⟨xa19, xc19, rfl⟩ := own_form ho19)
            | (go_at_call 27; (with_reducible refine (HHA.out _ _ (own_ints (by assumption))).mono ?_); rintro e w20 ⟨rfl, rfl⟩)
            | (go_at_call 27; (with_reducible refine (HHC.out _ _ (own_ints (by assumption))).mono ?_); rintro e w20 ⟨rfl, rfl⟩))
        have hB : Below w17.heap.size w17 _ := And.left (by assumption)
        have HBF := Lib.hid (stepB HBW17.out hB)
        have HDF := Lib.hid (And.intro ((hB.block D (Array.getElem?_eq_some_iff.1 HD17.out.1).1).trans HD17.out.1) ((hB.block D2 (Array.getElem?_eq_some_iff.1 HD17.out.2).1).trans HD17.out.2))
        rename_i hHeld
        clear hHeld hB
        go_wp2
        refine leaves_marksO (B := w.heap.size) [D2, D] _ (by simp; have := HMK.out.1; omega) (fun D' hD' => by have h1 := HMK.out.2.1; have h2 := HMK.out.2.2.1; have h3 := HBW9.out.size; have h4 := HSZ.out; simp at hD'; omega) (fun D' hD' => by simp at hD'; rcases hD' with rfl | rfl; exact HDF.out.2; exact HDF.out.1) (fun W' hb hc => ?_)
        exact ⟨_, results_tmp rfl _ _ _, rfl, HBF.out.trans hb⟩
end Go.Proofs.YtlfffeinngkjgaaGreat
