/- The law DeckKinds, proved: for every table and list of numbers it returns true; each argument reads behind the call as it read before. No condition. -/
import Derived.Test.YtcbjekdbkhibbaaDv
import Derived.Test.YtcbjekdbkhibbaaOc
import Derived.Test.YtcbjekdbkhibbaaTk
import Derived.LoopNIn
namespace Go.Proofs.Ytcbjekdbkhibbaa
open Go.ChangeShapes Go.WideShapes Go.ChangeAt Go.RowKit
attribute [local go_sem] Oper.semAt_some

theorem great_small {t : List CardL} {l : List Int} (h : greatB t l = false) : t.length ≤ 70 ∧ l.length ≤ 60 := by
  unfold greatB at h
  simp only [Bool.or_eq_false_iff, decide_eq_false_iff_not] at h
  omega
/-- What the law keeps between its loops: the table's box, the result's, the count's, the kind's, the marks. -/
def KindsIs (w W : World) (T : Value) (b5 b6 : Nat) (N k : Int) (Ds : List Nat) : Prop :=
  Boxed W w.heap.size 85 T ∧ Boxed W (w.heap.size + 1) 4 (.bool false) ∧ Boxed W b5 3 (.int .i64 N) ∧ Boxed W b6 3 (.int .i64 k) ∧ MarksAt W Ds ∧ Below w.heap.size w W
theorem boxed_later {W W' : World} {b : Nat} {t : TypeId} {v : Value} (h : Boxed W b t v) (hb : Below W.heap.size W W') : Boxed W' b t v := (hb.block b h.lt).trans h
theorem KindsIs.later {w W W' : World} {T : Value} {b5 b6 : Nat} {N k : Int} {Ds : List Nat} (h : KindsIs w W T b5 b6 N k Ds) (hb : Below W.heap.size W W') : KindsIs w W' T b5 b6 N k Ds :=
  ⟨boxed_later h.1 hb, boxed_later h.2.1 hb, boxed_later h.2.2.1 hb, boxed_later h.2.2.2.1 hb, h.2.2.2.2.1.others (others_below hb), stepB h.2.2.2.2.2 hb⟩
theorem table_all {t : List CardL} (h : tableE t = 0) : t.all mayB = true := by
  unfold tableE at h
  split at h
  · exact absurd h (by decide)
  · split at h
    · assumption
    · exact absurd h (by decide)
theorem marks_cons {W : World} {D : Nat} {Ds : List Nat} (h : W.heap[D]? = some (.deferred (some []))) (hs : MarksAt W Ds) : MarksAt W (D :: Ds) := fun D' hD => by
  rcases List.mem_cons.1 hD with rfl | hD
  · exact h
  · exact hs D' hD
theorem kinds_leave {tmps : Array Value} {b : Nat} {W : World} {R : Ending → World → Prop} (h4 : tmps[4]? = some (.pointer (some ⟨b, 0, none⟩))) (hc : W.cell? ⟨b, 0, none⟩ = some (.bool true)) (hR : R (.returned (.bool true)) W) :
    LeavesIn Fence.wide 6 Try.prog Try.f16 tmps R [] .returning W :=
  ⟨.bool true, by simp [results, Try.results16, go_sem, h4, hc], hR⟩
theorem kinds_own {w : World} {T : Value} {b5 b6 B m : Nat} {k : Int} {Ds : List Nat} {α : Type} (hDs : ∀ D ∈ Ds, D < B) (hB : w.heap.size ≤ B) : OwnFrom B (fun (pre : List α) W => KindsIs w W T b5 b6 ((m + pre.length : Nat) : Int) k Ds) :=
  OwnFrom.and (Own.from (boxed_own w.heap.size 85 (fun _ => T)) _) (OwnFrom.and (Own.from (boxed_own (w.heap.size + 1) 4 (fun _ => .bool false)) _) (OwnFrom.and (Own.from (boxed_own b5 3 (fun pre : List α => .int .i64 ((m + pre.length : Nat) : Int))) _)
    (OwnFrom.and (Own.from (boxed_own b6 3 (fun _ => .int .i64 k)) _) (OwnFrom.and (marks_own hDs) (ownFrom_below (Nat.le_refl _) hB)))))
theorem kinds_count {w W : World} {T : Value} {b5 b6 : Nat} {N N' k : Int} {Ds : List Nat} (h : KindsIs w W T b5 b6 N k Ds) (h1 : w.heap.size + 1 < b5) (h2 : b6 ≠ b5) : KindsIs w (W.setCell ⟨b5, 0, none⟩ (.int .i64 N')) T b5 b6 N' k Ds :=
  ⟨h.1.other (by omega) _, h.2.1.other (by omega) _, h.2.2.1.set _, h.2.2.2.1.other h2 _, h.2.2.2.2.1.others (KeepsOthers.setCell _ _ _), h.2.2.2.2.2.setCell (p := ⟨b5, 0, none⟩) (by show w.heap.size ≤ b5; omega) _⟩
set_option maxRecDepth 100000 in
set_option maxHeartbeats 16000000 in
theorem kinds_great {v u : Value} {t : List CardL} {l : List Int} {w : World} (h : CardsAt w v t) (hu : IntsAt w u l) (hn : t.length ≤ 9223372036854775807) (hs : SmallC t) (hl : l.length ≤ 9223372036854775807) (hg : greatB t l = true) :
    Calls Try.prog 16 #[v, u] w (RetB w true) := by
  obtain ⟨xa, xc, rfl⟩ := h.form
  obtain ⟨ya, yc, rfl⟩ := hu.form
  have HL := Lib.hid h
  have HU := Lib.hid hu
  have HS := Lib.hid hs
  clear h hu hs
  have HG := Lib.hid hg
  clear hg
  refine (callsIn_wide (n := 6)).1 ?_
  refine callsIn_of_wp_marks Try.func16 rfl trivial ?_ rfl
  simp only [Try.ntmps16, List.size_toArray, List.length_cons, List.length_nil, Nat.reduceAdd, Nat.reduceSub, Array.replicate_succ, Array.replicate_zero, List.push_toArray, List.append_toArray, List.nil_append, List.cons_append]
  gi_wp2_with fail
  refine ⟨trivial, (callsIn_wide.2 (awake3_any _)).mono ?_⟩
  rintro e w1 ⟨rfl, hb1⟩
  have HX1 := Lib.hid (boxed_later ((Boxed.new w 85 (.slice xa t.length xc)).alloc (.cells #[.bool false] 4)) hb1)
  have HY1 := Lib.hid (show Boxed w1 (w.heap.size + 1) 4 (.bool false) from by
    have := boxed_later (Boxed.new (w.alloc (.cells #[.slice xa t.length xc] 85)) 4 (.bool false)) hb1
    simpa using this)
  have HB1 := Lib.hid (stepB (below_alloc2 (below_new w (.cells #[.slice xa t.length xc] 85)) (.cells #[.bool false] 4)) hb1)
  clear hb1
  have hx1 := HX1.out.cell
  have hy1 := HY1.out.cell
  have hyf := HY1.out.frozen
  gi_wp2_with fail
  refine ⟨trivial, (callsIn_wide.2 (great_any ya l.length yc (HL.out.later HB1.out) rfl hn hl)).mono ?_⟩
  rw [HG.out]
  rintro e w2 ⟨rfl, hb2⟩
  have HB2 := Lib.hid (stepB HB1.out hb2)
  have HX2 := Lib.hid (boxed_later HX1.out hb2)
  have HY2 := Lib.hid (boxed_later HY1.out hb2)
  clear hb2 hx1 hy1 hyf
  have hx2 := HX2.out.cell
  have hy2 := HY2.out.cell
  have hyf2 := HY2.out.frozen
  gi_wp2
  refine ⟨trivial, ?_⟩
  gi_wp2
  exact kinds_leave rfl (by simp [go_sem, hy2]) ⟨rfl, HB2.out.setCell (p := ⟨w.heap.size + 1, 0, none⟩) (by simp) _⟩
set_option maxRecDepth 100000 in
set_option maxHeartbeats 16000000 in
theorem kinds_bad {v u : Value} {t : List CardL} {l : List Int} {w : World} (h : CardsAt w v t) (hu : IntsAt w u l) (hn : t.length ≤ 9223372036854775807) (hs : SmallC t) (hl : l.length ≤ 9223372036854775807) (hg : greatB t l = false) (he : tableE t ≠ 0) :
    Calls Try.prog 16 #[v, u] w (RetB w true) := by
  obtain ⟨xa, xc, rfl⟩ := h.form
  obtain ⟨ya, yc, rfl⟩ := hu.form
  have HL := Lib.hid h
  have HU := Lib.hid hu
  have HS := Lib.hid hs
  clear h hu hs
  have HG := Lib.hid hg
  obtain ⟨E, hE⟩ : ∃ E, tableE t = E := ⟨_, rfl⟩
  rw [hE] at he
  have HE := Lib.hid hE
  have e1 : (E != 0) = true := bne_iff_ne.2 he
  clear hg hE he
  refine (callsIn_wide (n := 6)).1 ?_
  refine callsIn_of_wp_marks Try.func16 rfl trivial ?_ rfl
  simp only [Try.ntmps16, List.size_toArray, List.length_cons, List.length_nil, Nat.reduceAdd, Nat.reduceSub, Array.replicate_succ, Array.replicate_zero, List.push_toArray, List.append_toArray, List.nil_append, List.cons_append]
  gi_wp2_with fail
  refine ⟨trivial, (callsIn_wide.2 (awake3_any _)).mono ?_⟩
  rintro e w1 ⟨rfl, hb1⟩
  have HX1 := Lib.hid (boxed_later ((Boxed.new w 85 (.slice xa t.length xc)).alloc (.cells #[.bool false] 4)) hb1)
  have HY1 := Lib.hid (show Boxed w1 (w.heap.size + 1) 4 (.bool false) from by
    have := boxed_later (Boxed.new (w.alloc (.cells #[.slice xa t.length xc] 85)) 4 (.bool false)) hb1
    simpa using this)
  have HB1 := Lib.hid (stepB (below_alloc2 (below_new w (.cells #[.slice xa t.length xc] 85)) (.cells #[.bool false] 4)) hb1)
  clear hb1
  have hx1 := HX1.out.cell
  have hy1 := HY1.out.cell
  have hyf := HY1.out.frozen
  gi_wp2_with fail
  refine ⟨trivial, (callsIn_wide.2 (great_any ya l.length yc (HL.out.later HB1.out) rfl hn hl)).mono ?_⟩
  rw [HG.out]
  rintro e w2 ⟨rfl, hb2⟩
  have HB2 := Lib.hid (stepB HB1.out hb2)
  have HX2 := Lib.hid (boxed_later HX1.out hb2)
  have HY2 := Lib.hid (boxed_later HY1.out hb2)
  clear hb2 hx1 hy1 hyf
  have hx2 := HX2.out.cell
  have hy2 := HY2.out.cell
  have hyf2 := HY2.out.frozen
  gi_wp2_with fail
  refine ⟨trivial, (callsIn_wide.2 (table_any (HL.out.later HB2.out) hn HS.out)).mono ?_⟩
  rw [HE.out]
  rintro e w3 ⟨rfl, hb3⟩
  have HB3 := Lib.hid (stepB HB2.out hb3)
  have HX3 := Lib.hid (boxed_later HX2.out hb3)
  have HY3 := Lib.hid (boxed_later HY2.out hb3)
  clear hb3 hx2 hy2 hyf2
  have hx3 := HX3.out.cell
  have hy3 := HY3.out.cell
  have hyf3 := HY3.out.frozen
  gi_wp2
  exact kinds_leave rfl (by simp [go_sem, hy3]) ⟨rfl, HB3.out.setCell (p := ⟨w.heap.size + 1, 0, none⟩) (by simp) _⟩
set_option maxRecDepth 100000 in
set_option maxHeartbeats 16000000 in
theorem kinds_in {v u : Value} {t : List CardL} {l : List Int} {w : World} (h : CardsAt w v t) (hu : IntsAt w u l) (hn : t.length ≤ 9223372036854775807) (hs : SmallC t) (hl : l.length ≤ 9223372036854775807) (hg : greatB t l = false) (he : tableE t = 0) :
    Calls Try.prog 16 #[v, u] w (RetB w true) := by
  obtain ⟨xa, xc, rfl⟩ := h.form
  obtain ⟨ya, yc, rfl⟩ := hu.form
  have HL := Lib.hid h
  have HU := Lib.hid hu
  have HS := Lib.hid hs
  clear h hu hs
  have HG := Lib.hid hg
  obtain ⟨t1, l1⟩ := great_small hg
  have HE := Lib.hid he
  clear hg
  refine (callsIn_wide (n := 6)).1 ?_
  refine callsIn_of_wp_marks Try.func16 rfl trivial ?_ rfl
  simp only [Try.ntmps16, List.size_toArray, List.length_cons, List.length_nil, Nat.reduceAdd, Nat.reduceSub, Array.replicate_succ, Array.replicate_zero, List.push_toArray, List.append_toArray, List.nil_append, List.cons_append]
  gi_wp2_with fail
  refine ⟨trivial, (callsIn_wide.2 (awake3_any _)).mono ?_⟩
  rintro e w1 ⟨rfl, hb1⟩
  have HX1 := Lib.hid (boxed_later ((Boxed.new w 85 (.slice xa t.length xc)).alloc (.cells #[.bool false] 4)) hb1)
  have HY1 := Lib.hid (show Boxed w1 (w.heap.size + 1) 4 (.bool false) from by
    have := boxed_later (Boxed.new (w.alloc (.cells #[.slice xa t.length xc] 85)) 4 (.bool false)) hb1
    simpa using this)
  have HB1 := Lib.hid (stepB (below_alloc2 (below_new w (.cells #[.slice xa t.length xc] 85)) (.cells #[.bool false] 4)) hb1)
  clear hb1
  have hx1 := HX1.out.cell
  have hy1 := HY1.out.cell
  have hyf := HY1.out.frozen
  gi_wp2_with fail
  refine ⟨trivial, (callsIn_wide.2 (great_any ya l.length yc (HL.out.later HB1.out) rfl hn hl)).mono ?_⟩
  rw [HG.out]
  rintro e w2 ⟨rfl, hb2⟩
  have HB2 := Lib.hid (stepB HB1.out hb2)
  have HX2 := Lib.hid (boxed_later HX1.out hb2)
  have HY2 := Lib.hid (boxed_later HY1.out hb2)
  clear hb2 hx1 hy1 hyf
  have hx2 := HX2.out.cell
  have hy2 := HY2.out.cell
  have hyf2 := HY2.out.frozen
  gi_wp2_with fail
  refine ⟨trivial, (callsIn_wide.2 (table_any (HL.out.later HB2.out) hn HS.out)).mono ?_⟩
  rw [HE.out]
  rintro e w3 ⟨rfl, hb3⟩
  have HB3 := Lib.hid (stepB HB2.out hb3)
  have HX3 := Lib.hid (boxed_later HX2.out hb3)
  have HY3 := Lib.hid (boxed_later HY2.out hb3)
  clear hb3 hx2 hy2 hyf2
  have hx3 := HX3.out.cell
  have hy3 := HY3.out.cell
  have hyf3 := HY3.out.frozen
  have HK1 := Lib.hid (show KindsIs w ((w3.alloc (.cells #[.int .i64 0] 3)).alloc (.cells #[.int .i64 1] 3)) (.slice xa t.length xc) w3.heap.size (w3.heap.size + 1) ((0 : Nat) : Int) 1 [] from by
    refine ⟨(HX3.out.alloc _).alloc _, (HY3.out.alloc _).alloc _, (Boxed.new w3 _ _).alloc _, ?_, (show MarksAt _ [] from fun D hD => by cases hD), below_alloc2 (below_alloc2 HB3.out _) _⟩
    have := Boxed.new (w3.alloc (.cells #[.int .i64 0] 3)) 3 (.int .i64 1)
    simpa using this)
  have H53 := Lib.hid (show w.heap.size + 1 < w3.heap.size from HY3.out.lt)
  clear hx3 hy3 hyf3
  gi_wp2
  refine wpIn_loop_rounds 5 ?_
  obtain ⟨W1, hW1⟩ : ∃ W1, ((w3.alloc (.cells #[.int .i64 0] 3)).alloc (.cells #[.int .i64 1] 3)) = W1 := ⟨_, rfl⟩
  rw [hW1] at HK1
  rw [hW1]
  clear hW1
  rw [roundsIn_succ]
  have hk1 := HK1.out.2.2.2.1.cell
  have hx1 := HK1.out.1.cell
  gi_wp2_with fail
  refine ⟨trivial, (callsIn_wide.2 (of_any (HL.out.later (below_alloc2 HK1.out.2.2.2.2.2 _)) (HU.out.later (below_alloc2 HK1.out.2.2.2.2.2 _)) (numsO_at (a := 1) rfl) (by omega) (by decide))).mono ?_⟩
  rintro e V1 ⟨q1, rfl, hv, hq, hb⟩
  have hbV : Below W1.heap.size W1 V1 := stepB (below_new W1 _) hb
  have HV1 := Lib.hid (HK1.out.later hbV)
  have HZ1 := Lib.hid (show w3.heap.size < q1 from by have := HK1.out.2.2.1.lt; simp at hq; omega)
  have HSQ1 := Lib.hid (of_stops2 Fence.wide 5 trivial rfl (by decide) q1 w3.heap.size V1.heap.size (tagL t [1] l) (by rw [tagL_len]; exact Nat.le_trans (List.length_filter_le _ _) (by omega)) V1 (by rw [tagL_map]; exact hv) HZ1.out rfl)
  have HN61 := Lib.hid (show w3.heap.size + 1 ≠ w3.heap.size from by omega)
  clear hv hq hb hbV hk1 hx1
  gi_wp2
  refine wpIn_rangeFunc_ownF rfl (by decide) (gf := 128) (lb := #[.pointer (some ⟨q1, 0, none⟩)]) rfl trivial (fun _ _ => by kernel_rfl) HSQ1.out (fun h k => h.trans k) (KeptBut.put (Nat.le_refl _)) (Below.refl _ _) (fun _ => rfl)
    (fun pre W => KindsIs w W (.slice xa t.length xc) w3.heap.size (w3.heap.size + 1) ((0 + pre.length : Nat) : Int) 1 [])
    (fun _ _ _ => False)
    (kinds_own (fun D hD => HV1.out.2.2.2.2.1.lt hD) HV1.out.2.2.2.2.2.size)
    (fun _ _ _ _ _ hs _ _ => hs)
    (by simpa using HV1.out) ?a11 ?assign1 ?body1 ?done1 ?stop1
  case assign1 =>
    intro l x W K hK
    gi_wp2
    exact hK
  case stop1 =>
    rintro D c pre W _ _ h _
    exact h.elim
  case body1 =>
    rintro lp pre ⟨x, hx⟩ W hI hlen
    have hpl : pre.length ≤ 60 := by
      have h1 := tagL_len t [1] l
      have h2 : (ofL t [1] l).length ≤ l.length := List.length_filter_le _ _
      omega

    obtain ⟨N, hN⟩ : ∃ N : Nat, 0 + pre.length = N := ⟨_, rfl⟩
    have hNb : N ≤ 1000 := by omega
    rw [hN] at hI
    have HN := Lib.hid (show 0 + (pre ++ [(⟨x, hx⟩ : {x : Int // ofB t [1] x = true})]).length = N + 1 by rw [List.length_append, ← hN]; simp <;> omega)
    have HI := Lib.hid hI
    have hcn := hI.2.2.1.cell
    have hfn := hI.2.2.1.frozen
    have hck := hI.2.2.2.1.cell
    have hct := hI.1.cell
    have hxx := hx
    unfold ofB at hxx
    simp only [Bool.and_eq_true] at hxx
    obtain ⟨m, rfl, hmt⟩ := inT_nat2 hxx.1
    obtain ⟨b2, off2, rfl, hcell⟩ := (HL.out.later hI.2.2.2.2.2).at m hmt
    have hka := kindAt_of hmt
    have hkk : kindAt t (m : Int) = 1 := by have := hxx.2; simpa using this
    obtain ⟨c, hcc⟩ : ∃ c, t[m] = c := ⟨_, rfl⟩
    have hcell2 : CardCells W b2 (off2 + m * 7) c := by rw [← hcc]; exact hcell
    have hkc : c.kind = 1 := by rw [← hkk, hka, hcc]
    obtain ⟨za, zc, k0, k1, k2, k3, k4, k5, k6, ht⟩ := hcell2
    rw [hkc] at k0
    have n0 : (0 : Int) ≤ N := by omega
    have n1 : (N : Int) ≤ 1000 := by omega
    have m0 : (0 : Int) ≤ m := by omega
    have m1 : (m : Int) < t.length := by omega
    have hwr : IntKind.i64.wrap ((N : Int) + 1) = (N : Int) + 1 := IntWalk.i64_in _ (by omega)
    clear ht hcc hka hI k1 k2 k3 k4 k5 k6 hkk hkc hcell hxx hN hlen
    gi_wp2
    gi_region
    all_goals
      gi_wp2
      refine ⟨(KeepsOthers.setCell W _ _).trans (KeepsOthers.drew _), ⟨by simp, fun k _ hks => Below.heap_setCell W ⟨w3.heap.size, 0, none⟩ _ k hks⟩, ?_⟩
      have hfin := (kinds_count (N' := (N : Int) + 1) HI.out H53.out HN61.out).later (Below.refl _ _).drew
      have hnn : ((0 + (pre ++ [(⟨(m : Int), hx⟩ : {x : Int // ofB t [1] x = true})]).length : Nat) : Int) = (N : Int) + 1 := by have := HN.out; omega
      show KindsIs w _ _ _ _ ((0 + (pre ++ [(⟨(m : Int), hx⟩ : {x : Int // ofB t [1] x = true})]).length : Nat) : Int) _ _
      rw [hnn]
      exact hfin
  case done1 =>
    rintro D1 xs X1 hD hS hI hK
    subst hS
    rw [tagL_len] at hI
    have HM1 := Lib.hid hI
    have HD1 := Lib.hid (And.intro hD hK)
    have hk1 := hI.2.2.2.1.cell
    clear hI hD hK
    gi_wp2
    obtain ⟨W2, hW⟩ : ∃ W2, X1.alloc (.cells #[.int .i64 2] 3) = W2 := ⟨_, rfl⟩
    rw [hW]
    have HL62 := Lib.hid (show w3.heap.size < X1.heap.size from HM1.out.2.2.1.lt)
    have HK2 := Lib.hid (show KindsIs w W2 (.slice xa t.length xc) w3.heap.size X1.heap.size ((0 + (ofL t [1] l).length : Nat) : Int) 2 [D1] from by
      rw [← hW]
      obtain ⟨g1, g2, g3, _, g5, g6⟩ := HM1.out
      refine ⟨g1.alloc _, g2.alloc _, g3.alloc _, Boxed.new X1 _ _, ?_, below_alloc2 g6 _⟩
      exact (marks_cons HD1.out.2 g5).others (KeepsOthers.alloc _ _))
    clear hW hk1
    rw [roundsIn_succ]
    have hk2 := HK2.out.2.2.2.1.cell
    have hx2 := HK2.out.1.cell
    gi_wp2_with fail
    refine ⟨trivial, (callsIn_wide.2 (of_any (HL.out.later (below_alloc2 HK2.out.2.2.2.2.2 _)) (HU.out.later (below_alloc2 HK2.out.2.2.2.2.2 _)) (numsO_at (a := 2) rfl) (by omega) (by decide))).mono ?_⟩
    rintro e V2 ⟨q2, rfl, hv, hq, hb⟩
    have hbV : Below W2.heap.size W2 V2 := stepB (below_new W2 _) hb
    have HV2 := Lib.hid (HK2.out.later hbV)
    have HZ2 := Lib.hid (show w3.heap.size < q2 from by have := HK2.out.2.2.1.lt; simp at hq; omega)
    have HSQ2 := Lib.hid (of_stops2 Fence.wide 5 trivial rfl (by decide) q2 w3.heap.size V2.heap.size (tagL t [2] l) (by rw [tagL_len]; exact Nat.le_trans (List.length_filter_le _ _) (by omega)) V2 (by rw [tagL_map]; exact hv) HZ2.out rfl)
    have HN62 := Lib.hid (show X1.heap.size ≠ w3.heap.size from by have := HL62.out; omega)
    clear hv hq hb hbV hk2 hx2
    gi_wp2
    refine wpIn_rangeFunc_ownF rfl (by decide) (gf := 128) (lb := #[.pointer (some ⟨q2, 0, none⟩)]) rfl trivial (fun _ _ => by kernel_rfl) HSQ2.out (fun h k => h.trans k) (KeptBut.put (Nat.le_refl _)) (Below.refl _ _) (fun _ => rfl)
      (fun pre W => KindsIs w W (.slice xa t.length xc) w3.heap.size (X1.heap.size) ((0 + (ofL t [1] l).length + pre.length : Nat) : Int) 2 [D1])
      (fun _ _ _ => False)
      (kinds_own (fun D hD => HV2.out.2.2.2.2.1.lt hD) HV2.out.2.2.2.2.2.size)
      (fun _ _ _ _ _ hs _ _ => hs)
      (by simpa using HV2.out) ?a12 ?assign2 ?body2 ?done2 ?stop2
    case assign2 =>
      intro l x W K hK
      gi_wp2
      exact hK
    case stop2 =>
      rintro D c pre W _ _ h _
      exact h.elim
    case body2 =>
      rintro lp pre ⟨x, hx⟩ W hI hlen
      have hpl : pre.length ≤ 60 := by
        have h1 := tagL_len t [2] l
        have h2 : (ofL t [2] l).length ≤ l.length := List.length_filter_le _ _
        omega
      have hb1 : (ofL t [1] l).length ≤ l.length := List.length_filter_le _ _
      obtain ⟨N, hN⟩ : ∃ N : Nat, 0 + (ofL t [1] l).length + pre.length = N := ⟨_, rfl⟩
      have hNb : N ≤ 1000 := by omega
      rw [hN] at hI
      have HN := Lib.hid (show 0 + (ofL t [1] l).length + (pre ++ [(⟨x, hx⟩ : {x : Int // ofB t [2] x = true})]).length = N + 1 by rw [List.length_append, ← hN]; simp <;> omega)
      have HI := Lib.hid hI
      have hcn := hI.2.2.1.cell
      have hfn := hI.2.2.1.frozen
      have hck := hI.2.2.2.1.cell
      have hct := hI.1.cell
      have hxx := hx
      unfold ofB at hxx
      simp only [Bool.and_eq_true] at hxx
      obtain ⟨m, rfl, hmt⟩ := inT_nat2 hxx.1
      obtain ⟨b2, off2, rfl, hcell⟩ := (HL.out.later hI.2.2.2.2.2).at m hmt
      have hka := kindAt_of hmt
      have hkk : kindAt t (m : Int) = 2 := by have := hxx.2; simpa using this
      obtain ⟨c, hcc⟩ : ∃ c, t[m] = c := ⟨_, rfl⟩
      have hcell2 : CardCells W b2 (off2 + m * 7) c := by rw [← hcc]; exact hcell
      have hkc : c.kind = 2 := by rw [← hkk, hka, hcc]
      obtain ⟨za, zc, k0, k1, k2, k3, k4, k5, k6, ht⟩ := hcell2
      rw [hkc] at k0
      have n0 : (0 : Int) ≤ N := by omega
      have n1 : (N : Int) ≤ 1000 := by omega
      have m0 : (0 : Int) ≤ m := by omega
      have m1 : (m : Int) < t.length := by omega
      have hwr : IntKind.i64.wrap ((N : Int) + 1) = (N : Int) + 1 := IntWalk.i64_in _ (by omega)
      clear ht hcc hka hI k1 k2 k3 k4 k5 k6 hkk hkc hcell hxx hN hlen
      gi_wp2
      gi_region
      all_goals
        gi_wp2
        refine ⟨(KeepsOthers.setCell W _ _).trans (KeepsOthers.drew _), ⟨by simp, fun k _ hks => Below.heap_setCell W ⟨w3.heap.size, 0, none⟩ _ k hks⟩, ?_⟩
        have hfin := (kinds_count (N' := (N : Int) + 1) HI.out H53.out HN62.out).later (Below.refl _ _).drew
        have hnn : ((0 + (ofL t [1] l).length + (pre ++ [(⟨(m : Int), hx⟩ : {x : Int // ofB t [2] x = true})]).length : Nat) : Int) = (N : Int) + 1 := by have := HN.out; omega
        show KindsIs w _ _ _ _ ((0 + (ofL t [1] l).length + (pre ++ [(⟨(m : Int), hx⟩ : {x : Int // ofB t [2] x = true})]).length : Nat) : Int) _ _
        rw [hnn]
        exact hfin
    case done2 =>
      rintro D2 xs X2 hD hS hI hK
      subst hS
      rw [tagL_len] at hI
      have HM2 := Lib.hid hI
      have HD2 := Lib.hid (And.intro hD hK)
      have hk2 := hI.2.2.2.1.cell
      clear hI hD hK
      gi_wp2
      obtain ⟨W3, hW⟩ : ∃ W3, X2.alloc (.cells #[.int .i64 3] 3) = W3 := ⟨_, rfl⟩
      rw [hW]
      have HL63 := Lib.hid (show w3.heap.size < X2.heap.size from HM2.out.2.2.1.lt)
      have HK3 := Lib.hid (show KindsIs w W3 (.slice xa t.length xc) w3.heap.size X2.heap.size ((0 + (ofL t [1] l).length + (ofL t [2] l).length : Nat) : Int) 3 [D2, D1] from by
        rw [← hW]
        obtain ⟨g1, g2, g3, _, g5, g6⟩ := HM2.out
        refine ⟨g1.alloc _, g2.alloc _, g3.alloc _, Boxed.new X2 _ _, ?_, below_alloc2 g6 _⟩
        exact (marks_cons HD2.out.2 g5).others (KeepsOthers.alloc _ _))
      clear hW hk2
      rw [roundsIn_succ]
      have hk3 := HK3.out.2.2.2.1.cell
      have hx3 := HK3.out.1.cell
      gi_wp2_with fail
      refine ⟨trivial, (callsIn_wide.2 (of_any (HL.out.later (below_alloc2 HK3.out.2.2.2.2.2 _)) (HU.out.later (below_alloc2 HK3.out.2.2.2.2.2 _)) (numsO_at (a := 3) rfl) (by omega) (by decide))).mono ?_⟩
      rintro e V3 ⟨q3, rfl, hv, hq, hb⟩
      have hbV : Below W3.heap.size W3 V3 := stepB (below_new W3 _) hb
      have HV3 := Lib.hid (HK3.out.later hbV)
      have HZ3 := Lib.hid (show w3.heap.size < q3 from by have := HK3.out.2.2.1.lt; simp at hq; omega)
      have HSQ3 := Lib.hid (of_stops2 Fence.wide 5 trivial rfl (by decide) q3 w3.heap.size V3.heap.size (tagL t [3] l) (by rw [tagL_len]; exact Nat.le_trans (List.length_filter_le _ _) (by omega)) V3 (by rw [tagL_map]; exact hv) HZ3.out rfl)
      have HN63 := Lib.hid (show X2.heap.size ≠ w3.heap.size from by have := HL63.out; omega)
      clear hv hq hb hbV hk3 hx3
      gi_wp2
      refine wpIn_rangeFunc_ownF rfl (by decide) (gf := 128) (lb := #[.pointer (some ⟨q3, 0, none⟩)]) rfl trivial (fun _ _ => by kernel_rfl) HSQ3.out (fun h k => h.trans k) (KeptBut.put (Nat.le_refl _)) (Below.refl _ _) (fun _ => rfl)
        (fun pre W => KindsIs w W (.slice xa t.length xc) w3.heap.size (X2.heap.size) ((0 + (ofL t [1] l).length + (ofL t [2] l).length + pre.length : Nat) : Int) 3 [D2, D1])
        (fun _ _ _ => False)
        (kinds_own (fun D hD => HV3.out.2.2.2.2.1.lt hD) HV3.out.2.2.2.2.2.size)
        (fun _ _ _ _ _ hs _ _ => hs)
        (by simpa using HV3.out) ?a13 ?assign3 ?body3 ?done3 ?stop3
      case assign3 =>
        intro l x W K hK
        gi_wp2
        exact hK
      case stop3 =>
        rintro D c pre W _ _ h _
        exact h.elim
      case body3 =>
        rintro lp pre ⟨x, hx⟩ W hI hlen
        have hpl : pre.length ≤ 60 := by
          have h1 := tagL_len t [3] l
          have h2 : (ofL t [3] l).length ≤ l.length := List.length_filter_le _ _
          omega
        have hb1 : (ofL t [1] l).length ≤ l.length := List.length_filter_le _ _
        have hb2 : (ofL t [2] l).length ≤ l.length := List.length_filter_le _ _
        obtain ⟨N, hN⟩ : ∃ N : Nat, 0 + (ofL t [1] l).length + (ofL t [2] l).length + pre.length = N := ⟨_, rfl⟩
        have hNb : N ≤ 1000 := by omega
        rw [hN] at hI
        have HN := Lib.hid (show 0 + (ofL t [1] l).length + (ofL t [2] l).length + (pre ++ [(⟨x, hx⟩ : {x : Int // ofB t [3] x = true})]).length = N + 1 by rw [List.length_append, ← hN]; simp <;> omega)
        have HI := Lib.hid hI
        have hcn := hI.2.2.1.cell
        have hfn := hI.2.2.1.frozen
        have hck := hI.2.2.2.1.cell
        have hct := hI.1.cell
        have hxx := hx
        unfold ofB at hxx
        simp only [Bool.and_eq_true] at hxx
        obtain ⟨m, rfl, hmt⟩ := inT_nat2 hxx.1
        obtain ⟨b2, off2, rfl, hcell⟩ := (HL.out.later hI.2.2.2.2.2).at m hmt
        have hka := kindAt_of hmt
        have hkk : kindAt t (m : Int) = 3 := by have := hxx.2; simpa using this
        obtain ⟨c, hcc⟩ : ∃ c, t[m] = c := ⟨_, rfl⟩
        have hcell2 : CardCells W b2 (off2 + m * 7) c := by rw [← hcc]; exact hcell
        have hkc : c.kind = 3 := by rw [← hkk, hka, hcc]
        obtain ⟨za, zc, k0, k1, k2, k3, k4, k5, k6, ht⟩ := hcell2
        rw [hkc] at k0
        have n0 : (0 : Int) ≤ N := by omega
        have n1 : (N : Int) ≤ 1000 := by omega
        have m0 : (0 : Int) ≤ m := by omega
        have m1 : (m : Int) < t.length := by omega
        have hwr : IntKind.i64.wrap ((N : Int) + 1) = (N : Int) + 1 := IntWalk.i64_in _ (by omega)
        clear ht hcc hka hI k1 k2 k3 k4 k5 k6 hkk hkc hcell hxx hN hlen
        gi_wp2
        gi_region
        all_goals
          gi_wp2
          refine ⟨(KeepsOthers.setCell W _ _).trans (KeepsOthers.drew _), ⟨by simp, fun k _ hks => Below.heap_setCell W ⟨w3.heap.size, 0, none⟩ _ k hks⟩, ?_⟩
          have hfin := (kinds_count (N' := (N : Int) + 1) HI.out H53.out HN63.out).later (Below.refl _ _).drew
          have hnn : ((0 + (ofL t [1] l).length + (ofL t [2] l).length + (pre ++ [(⟨(m : Int), hx⟩ : {x : Int // ofB t [3] x = true})]).length : Nat) : Int) = (N : Int) + 1 := by have := HN.out; omega
          show KindsIs w _ _ _ _ ((0 + (ofL t [1] l).length + (ofL t [2] l).length + (pre ++ [(⟨(m : Int), hx⟩ : {x : Int // ofB t [3] x = true})]).length : Nat) : Int) _ _
          rw [hnn]
          exact hfin
      case done3 =>
        rintro D3 xs X3 hD hS hI hK
        subst hS
        rw [tagL_len] at hI
        have HM3 := Lib.hid hI
        have HD3 := Lib.hid (And.intro hD hK)
        have hk3 := hI.2.2.2.1.cell
        clear hI hD hK
        gi_wp2
        obtain ⟨W4, hW⟩ : ∃ W4, X3.alloc (.cells #[.int .i64 4] 3) = W4 := ⟨_, rfl⟩
        rw [hW]
        have HL64 := Lib.hid (show w3.heap.size < X3.heap.size from HM3.out.2.2.1.lt)
        have HK4 := Lib.hid (show KindsIs w W4 (.slice xa t.length xc) w3.heap.size X3.heap.size ((0 + (ofL t [1] l).length + (ofL t [2] l).length + (ofL t [3] l).length : Nat) : Int) 4 [D3, D2, D1] from by
          rw [← hW]
          obtain ⟨g1, g2, g3, _, g5, g6⟩ := HM3.out
          refine ⟨g1.alloc _, g2.alloc _, g3.alloc _, Boxed.new X3 _ _, ?_, below_alloc2 g6 _⟩
          exact (marks_cons HD3.out.2 g5).others (KeepsOthers.alloc _ _))
        clear hW hk3
        rw [roundsIn_succ]
        have hk4 := HK4.out.2.2.2.1.cell
        have hx4 := HK4.out.1.cell
        gi_wp2_with fail
        refine ⟨trivial, (callsIn_wide.2 (of_any (HL.out.later (below_alloc2 HK4.out.2.2.2.2.2 _)) (HU.out.later (below_alloc2 HK4.out.2.2.2.2.2 _)) (numsO_at (a := 4) rfl) (by omega) (by decide))).mono ?_⟩
        rintro e V4 ⟨q4, rfl, hv, hq, hb⟩
        have hbV : Below W4.heap.size W4 V4 := stepB (below_new W4 _) hb
        have HV4 := Lib.hid (HK4.out.later hbV)
        have HZ4 := Lib.hid (show w3.heap.size < q4 from by have := HK4.out.2.2.1.lt; simp at hq; omega)
        have HSQ4 := Lib.hid (of_stops2 Fence.wide 5 trivial rfl (by decide) q4 w3.heap.size V4.heap.size (tagL t [4] l) (by rw [tagL_len]; exact Nat.le_trans (List.length_filter_le _ _) (by omega)) V4 (by rw [tagL_map]; exact hv) HZ4.out rfl)
        have HN64 := Lib.hid (show X3.heap.size ≠ w3.heap.size from by have := HL64.out; omega)
        clear hv hq hb hbV hk4 hx4
        gi_wp2
        refine wpIn_rangeFunc_ownF rfl (by decide) (gf := 128) (lb := #[.pointer (some ⟨q4, 0, none⟩)]) rfl trivial (fun _ _ => by kernel_rfl) HSQ4.out (fun h k => h.trans k) (KeptBut.put (Nat.le_refl _)) (Below.refl _ _) (fun _ => rfl)
          (fun pre W => KindsIs w W (.slice xa t.length xc) w3.heap.size (X3.heap.size) ((0 + (ofL t [1] l).length + (ofL t [2] l).length + (ofL t [3] l).length + pre.length : Nat) : Int) 4 [D3, D2, D1])
          (fun _ _ _ => False)
          (kinds_own (fun D hD => HV4.out.2.2.2.2.1.lt hD) HV4.out.2.2.2.2.2.size)
          (fun _ _ _ _ _ hs _ _ => hs)
          (by simpa using HV4.out) ?a14 ?assign4 ?body4 ?done4 ?stop4
        case assign4 =>
          intro l x W K hK
          gi_wp2
          exact hK
        case stop4 =>
          rintro D c pre W _ _ h _
          exact h.elim
        case body4 =>
          rintro lp pre ⟨x, hx⟩ W hI hlen
          have hpl : pre.length ≤ 60 := by
            have h1 := tagL_len t [4] l
            have h2 : (ofL t [4] l).length ≤ l.length := List.length_filter_le _ _
            omega
          have hb1 : (ofL t [1] l).length ≤ l.length := List.length_filter_le _ _
          have hb2 : (ofL t [2] l).length ≤ l.length := List.length_filter_le _ _
          have hb3 : (ofL t [3] l).length ≤ l.length := List.length_filter_le _ _
          obtain ⟨N, hN⟩ : ∃ N : Nat, 0 + (ofL t [1] l).length + (ofL t [2] l).length + (ofL t [3] l).length + pre.length = N := ⟨_, rfl⟩
          have hNb : N ≤ 1000 := by omega
          rw [hN] at hI
          have HN := Lib.hid (show 0 + (ofL t [1] l).length + (ofL t [2] l).length + (ofL t [3] l).length + (pre ++ [(⟨x, hx⟩ : {x : Int // ofB t [4] x = true})]).length = N + 1 by rw [List.length_append, ← hN]; simp <;> omega)
          have HI := Lib.hid hI
          have hcn := hI.2.2.1.cell
          have hfn := hI.2.2.1.frozen
          have hck := hI.2.2.2.1.cell
          have hct := hI.1.cell
          have hxx := hx
          unfold ofB at hxx
          simp only [Bool.and_eq_true] at hxx
          obtain ⟨m, rfl, hmt⟩ := inT_nat2 hxx.1
          obtain ⟨b2, off2, rfl, hcell⟩ := (HL.out.later hI.2.2.2.2.2).at m hmt
          have hka := kindAt_of hmt
          have hkk : kindAt t (m : Int) = 4 := by have := hxx.2; simpa using this
          obtain ⟨c, hcc⟩ : ∃ c, t[m] = c := ⟨_, rfl⟩
          have hcell2 : CardCells W b2 (off2 + m * 7) c := by rw [← hcc]; exact hcell
          have hkc : c.kind = 4 := by rw [← hkk, hka, hcc]
          obtain ⟨za, zc, k0, k1, k2, k3, k4, k5, k6, ht⟩ := hcell2
          rw [hkc] at k0
          have n0 : (0 : Int) ≤ N := by omega
          have n1 : (N : Int) ≤ 1000 := by omega
          have m0 : (0 : Int) ≤ m := by omega
          have m1 : (m : Int) < t.length := by omega
          have hwr : IntKind.i64.wrap ((N : Int) + 1) = (N : Int) + 1 := IntWalk.i64_in _ (by omega)
          clear ht hcc hka hI k1 k2 k3 k4 k5 k6 hkk hkc hcell hxx hN hlen
          gi_wp2
          gi_region
          all_goals
            gi_wp2
            refine ⟨(KeepsOthers.setCell W _ _).trans (KeepsOthers.drew _), ⟨by simp, fun k _ hks => Below.heap_setCell W ⟨w3.heap.size, 0, none⟩ _ k hks⟩, ?_⟩
            have hfin := (kinds_count (N' := (N : Int) + 1) HI.out H53.out HN64.out).later (Below.refl _ _).drew
            have hnn : ((0 + (ofL t [1] l).length + (ofL t [2] l).length + (ofL t [3] l).length + (pre ++ [(⟨(m : Int), hx⟩ : {x : Int // ofB t [4] x = true})]).length : Nat) : Int) = (N : Int) + 1 := by have := HN.out; omega
            show KindsIs w _ _ _ _ ((0 + (ofL t [1] l).length + (ofL t [2] l).length + (ofL t [3] l).length + (pre ++ [(⟨(m : Int), hx⟩ : {x : Int // ofB t [4] x = true})]).length : Nat) : Int) _ _
            rw [hnn]
            exact hfin
        case done4 =>
          rintro D4 xs X4 hD hS hI hK
          subst hS
          rw [tagL_len] at hI
          have HM4 := Lib.hid hI
          have HD4 := Lib.hid (And.intro hD hK)
          have hk4 := hI.2.2.2.1.cell
          clear hI hD hK
          gi_wp2
          obtain ⟨W5, hW⟩ : ∃ W5, X4.alloc (.cells #[.int .i64 5] 3) = W5 := ⟨_, rfl⟩
          rw [hW]
          have HL65 := Lib.hid (show w3.heap.size < X4.heap.size from HM4.out.2.2.1.lt)
          have HK5 := Lib.hid (show KindsIs w W5 (.slice xa t.length xc) w3.heap.size X4.heap.size ((0 + (ofL t [1] l).length + (ofL t [2] l).length + (ofL t [3] l).length + (ofL t [4] l).length : Nat) : Int) 5 [D4, D3, D2, D1] from by
            rw [← hW]
            obtain ⟨g1, g2, g3, _, g5, g6⟩ := HM4.out
            refine ⟨g1.alloc _, g2.alloc _, g3.alloc _, Boxed.new X4 _ _, ?_, below_alloc2 g6 _⟩
            exact (marks_cons HD4.out.2 g5).others (KeepsOthers.alloc _ _))
          clear hW hk4
          rw [roundsIn_succ]
          have hk5 := HK5.out.2.2.2.1.cell
          have hx5 := HK5.out.1.cell
          gi_wp2
          have HSUM := Lib.hid (show (0 + (ofL t [1] l).length + (ofL t [2] l).length + (ofL t [3] l).length + (ofL t [4] l).length : Nat) = (l.filter (inT t.length)).length from by
            have := kinds_sum t (table_all HE.out) l
            omega)
          gi_loop [8, 43] (fun c i => ∃ k : Nat, k ≤ l.length ∧ i = .int .i64 k ∧ c = .int .i64 (((l.take k).filter (inT t.length)).length : Int)) (fun _ i => l.length - (intOf i).toNat)
          case atStart => exact ⟨0, Nat.zero_le _, rfl, by simp⟩
          case round =>
            obtain ⟨k, hk, rfl, rfl⟩ := hrel
            by_cases hlt : k < l.length
            · obtain ⟨b, off, rfl, c0⟩ := (HU.out.later HK5.out.2.2.2.2.2).at k hlt
              have hnx : ((l.take (k + 1)).filter (inT t.length)).length = ((l.take k).filter (inT t.length)).length + if inT t.length l[k] then 1 else 0 := by
                rw [take_last l k hlt, List.filter_append, List.length_append]
                congr 1
                cases hin : inT t.length l[k] <;> simp [hin]
              have hcb : ((l.take k).filter (inT t.length)).length ≤ k := Nat.le_trans (List.length_filter_le _ _) (List.length_take_le _ _)
              obtain ⟨x, hx⟩ : ∃ x, l[k] = x := ⟨_, rfl⟩
              rw [hx] at c0 hnx
              obtain ⟨cn, hcn⟩ : ∃ cn, ((l.take k).filter (inT t.length)).length = cn := ⟨_, rfl⟩
              rw [hcn] at hnx hcb
              rw [hcn]
              have HNX := Lib.hid hnx
              have d0 : (0 : Int) ≤ k := by omega
              have d1 : (k : Int) < l.length := by omega
              clear hx hnx hcn
              by_cases hx0 : 0 ≤ x
              · have e0 : decide (0 ≤ x) = true := decide_eq_true hx0
                by_cases hxt : x < t.length
                · have e1 : decide (x < (t.length : Int)) = true := decide_eq_true hxt
                  have HI := Lib.hid (show inT t.length x = true by simp [inT]; omega)
                  gi_wp2
                  go_round
                  case rel => exact ⟨k + 1, by omega, by go_num, by rw [HNX.out, HI.out]; simp⟩
                  case measure => simp [intOf]; omega
                · have e1 : decide (x < (t.length : Int)) = false := decide_eq_false hxt
                  have HI := Lib.hid (show inT t.length x = false by simp [inT]; omega)
                  gi_wp2
                  go_round
                  case rel => exact ⟨k + 1, by omega, by go_num, by rw [HNX.out, HI.out]; simp⟩
                  case measure => simp [intOf]; omega
              · have e0 : decide (0 ≤ x) = false := decide_eq_false hx0
                have HI := Lib.hid (show inT t.length x = false by simp [inT]; omega)
                gi_wp2
                go_round
                case rel => exact ⟨k + 1, by omega, by go_num, by rw [HNX.out, HI.out]; simp⟩
                case measure => simp [intOf]; omega
            · obtain rfl : k = l.length := by omega
              rw [List.take_length, ← HSUM.out]
              have HN4 := Lib.hid (show (0 + (ofL t [1] l).length + (ofL t [2] l).length + (ofL t [3] l).length + (ofL t [4] l).length : Nat) ≤ 60 from by
                rw [HSUM.out]; exact Nat.le_trans (List.length_filter_le _ _) l1)
              obtain ⟨n4, hn4⟩ : ∃ n4, 0 + (ofL t [1] l).length + (ofL t [2] l).length + (ofL t [3] l).length + (ofL t [4] l).length = n4 := ⟨_, rfl⟩
              rw [hn4] at HK5 HN4
              rw [hn4]
              clear hn4 hlt hk hk5
              gi_wp2_with fail
              refine ⟨trivial, (callsIn_wide.2 (of_any (HL.out.later HK5.out.2.2.2.2.2) (HU.out.later HK5.out.2.2.2.2.2) (ks := []) (.inl ⟨rfl, rfl⟩) (by omega) (by decide))).mono ?_⟩
              rintro e V5 ⟨q5, rfl, hv, hq, hb⟩
              have HV5 := Lib.hid (HK5.out.later hb)
              have HZ5 := Lib.hid (show w3.heap.size < q5 from by have := HK5.out.2.2.1.lt; omega)
              have HSQ5 := Lib.hid (of_stops2 Fence.wide 5 trivial rfl (by decide) q5 w3.heap.size V5.heap.size (tagL t [] l) (by rw [tagL_len]; exact Nat.le_trans (List.length_filter_le _ _) (by omega)) V5 (by rw [tagL_map]; exact hv) HZ5.out rfl)
              clear hv hq hb hx5
              gi_wp2
              refine wpIn_rangeFunc_ownF rfl (by decide) (gf := 128) (lb := #[.pointer (some ⟨q5, 0, none⟩)]) rfl trivial (fun _ _ => by kernel_rfl) HSQ5.out (fun h k => h.trans k) (KeptBut.put (Nat.le_refl _)) (Below.refl _ _) (fun _ => rfl)
                (fun pre W => KindsIs w W (.slice xa t.length xc) w3.heap.size X4.heap.size ((n4 + pre.length : Nat) : Int) 5 [D4, D3, D2, D1])
                (fun _ _ _ => False)
                (kinds_own (fun D hD => HV5.out.2.2.2.2.1.lt hD) HV5.out.2.2.2.2.2.size)
                (fun _ _ _ _ _ hs _ _ => hs)
                (by simpa using HV5.out) ?a15 ?assign5 ?body5 ?done5 ?stop5
              case assign5 =>
                intro l x W K hK
                gi_wp2
                exact hK
              case stop5 =>
                rintro D c pre W _ _ h _
                exact h.elim
              case body5 =>
                rintro lp pre ⟨x, hx⟩ W hI hlen
                exact absurd hx (by unfold ofB; simp)
              case done5 =>
                rintro D5 xs X5 hD hS hI hK
                subst hS
                rw [tagL_len, of_none] at hI
                have hI2 : KindsIs w X5 (.slice xa t.length xc) w3.heap.size X4.heap.size (n4 : Int) 5 [D4, D3, D2, D1] := by simpa using hI
                have HM5 := Lib.hid hI2
                have HD5 := Lib.hid (And.intro hD hK)
                have hn5 := hI2.2.2.1.cell
                have hy5 := hI2.2.1.cell
                have hyf := hI2.2.1.frozen
                clear hI hI2 hD hK
                gi_wp2
                have p1 := HD1.out.1
                have p2 := HD2.out.1
                have p3 := HD3.out.1
                have p4 := HD4.out.1
                have p5 := HD5.out.1
                have m2 := HV2.out.2.2.2.2.1.lt (D := D1) (by simp)
                have m3 := HV3.out.2.2.2.2.1.lt (D := D2) (by simp)
                have m4 := HV4.out.2.2.2.2.1.lt (D := D3) (by simp)
                have m5 := HV5.out.2.2.2.2.1.lt (D := D4) (by simp)
                have b1 := HV1.out.2.2.2.2.2.size
                refine leaves_marks (B := w.heap.size) [D5, D4, D3, D2, D1] _ (by simp; omega) (by intro D hD; simp at hD; omega) ((marks_cons HD5.out.2 HM5.out.2.2.2.2.1).others (KeepsOthers.setCell _ _ _)) (fun W' hb hc => ?_)
                have hR := HM5.out.2.1.set (.bool true)
                have hR' : Boxed W' (w.heap.size + 1) 4 (.bool true) := hc _ _ hR rfl
                exact kinds_leave rfl hR'.cell ⟨rfl, (HM5.out.2.2.2.2.2.setCell (p := ⟨w.heap.size + 1, 0, none⟩) (by simp) _).trans hb⟩
theorem deckKinds_walk {v u : Value} {t : List CardL} {l : List Int} {w : World} (h : CardsAt w v t) (hu : IntsAt w u l) (hn : t.length ≤ 9223372036854775807) (hs : SmallC t) (hl : l.length ≤ 9223372036854775807) :
    Calls Try.prog 16 #[v, u] w (RetB w true) := by
  cases hg : greatB t l
  · by_cases he : tableE t = 0
    · exact kinds_in h hu hn hs hl hg he
    · exact kinds_bad h hu hn hs hl hg he
  · exact kinds_great h hu hn hs hl hg

set_option maxRecDepth 100000 in
theorem deckKinds_lifted (os : Os) (started : os.Started) (H : Type) (enc : TypeId × Value → H) :
    ReturnsInHanded {} Try.checked os 16 .any (Rows.deckKindsSpec.pre6 enc Try.prog Try.f16 Rows.deckKindsRow.domain false) (Rows.deckKindsSpec.post enc Try.prog Try.f16 false true false false) := by
  refine returnsInHanded_of_change (C := Try.checked) own started (by kernel_rfl) Try.func16
    (ChangeSpec.witness6 (enc := enc) (C := Try.checked) false ⟨#[], #[.slice none 0 0, .slice none 0 0], []⟩ 8 (by kernel_rfl) (by kernel_rfl) (by kernel_rfl) (by kernel_rfl)) ?_
  intro W base args ds gs before hval0 hW hcnd _
  have hval : ∀ (j : Nat) t v, Try.f16.params[j]? = some t → args[j]? = some v → Value.okWide Try.prog W .any base t v := hval0
  have hW' := hW
  obtain ⟨p, q, hA0, hV, rfl, hfz, hnd⟩ := hW
  have hA : DataW.TrodAll enc Try.prog W 0 (fun _ => true) true Try.f16.params.toList args.toList ds p := hA0
  rw [Try.params16] at hA hval
  have hA1 := hA
  obtain ⟨v0, vs0, d0, ds0, p0, q0, hargs0, rfl, rfl, h0, r0⟩ := trodAll_cons hA
  obtain ⟨v1, vs1, d1, ds1, p1, q1, rfl, rfl, rfl, h1, r1⟩ := trodAll_cons r0
  obtain ⟨rfl, rfl, rfl⟩ := trodAll_nil r1
  obtain rfl : args = #[v0, v1] := by cases args; simp_all
  obtain ⟨rfl, rfl⟩ := trodVars_none hV
  obtain ⟨t, ht, htl, hts⟩ := open_cards (hval 0 85 v0 rfl rfl) h0
  obtain ⟨l, hl, hll, _⟩ := open_nums (hval 1 51 v1 rfl rfl) h1
  clear hval0
  simp only [List.append_nil] at hW'
  have hlt := fun x hx => hW'.lt x hx
  unfold maxLen at htl hll
  refine (deckKinds_walk ht hl (by omega) hts (by omega)).mono fun e W' ⟨he, hb⟩ => ?_
  subst he
  exact ⟨_, rfl, post_below (pr := []) (pv := []) hW' (trodAll_cons_mk (shut_bool Try.underlying4 _) trodAll_mk0)
    (trodAll_stays laidOutT hb (by intro t ht; simp at ht; rcases ht with rfl | rfl <;> exact ⟨by kernel_rfl, of_decide_eq_true (by kernel_rfl)⟩) hA1 (by simpa using hlt)) rfl hb⟩

/-- The law DeckKinds: for every table and list of numbers it returns true; each argument reads behind the call as it read before. -/
theorem deckKinds_holds : Rows.DeckKindsSaid :=
  OpenClaim.holds_of_wide 16 Try.f16 rfl rfl rfl rfl rfl rfl rfl ⟨rfl, rfl, rfl, rfl, rfl⟩ rfl rfl rfl rfl rfl (by kernel_rfl) Try.func16 (by kernel_rfl)
    (of_decide_eq_true (by kernel_rfl)) (by unfold Func.isWrapper; first | (rw [if_pos (by decide +kernel)]; kernel_rfl) | (rw [if_neg (by decide +kernel)]; exact ⟨rfl, rfl⟩))
    (fun os started H enc _ => deckKinds_lifted os started H enc)
end Go.Proofs.Ytcbjekdbkhibbaa
