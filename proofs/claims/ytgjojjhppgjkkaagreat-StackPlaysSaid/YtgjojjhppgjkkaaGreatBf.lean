/- Foes whose rounds change lives; what Drain does to the other teams (layer 11). -/
import Derived.Test.YtgjojjhppgjkkaaGreatBb
import Derived.Test.YtgjojjhppgjkkaaGreatOt
import Derived.Deep.RegionHeld3
import Derived.Sort.CutIn
namespace Go.Proofs.YtgjojjhppgjkkaaGreat
open Go.RowKit Go.Maps
attribute [local go_sem] Oper.semAt_some

theorem keepB2 {A w w' : World} {a0 a1 : Addr} {v0 v1 : Value} (hb : Below w.heap.size w w') (h : Below A.heap.size A w ∧ w.cell? a0 = some v0 ∧ w.cell? a1 = some v1) : Below A.heap.size A w' ∧ w'.cell? a0 = some v0 ∧ w'.cell? a1 = some v1 :=
  ⟨stepB h.1 hb, cell_stays hb h.2.1, cell_stays hb h.2.2⟩
/-- The same teams have lost. -/
def FlagsE (T T' : TeamL) : Prop := T'.sh.length = T.sh.length ∧ ∀ k, lostT T' k = lostT T k
theorem FlagsE.refl (T : TeamL) : FlagsE T T := ⟨rfl, fun _ => rfl⟩
theorem FlagsE.trans {T T1 T2 : TeamL} (h : FlagsE T T1) (k : FlagsE T1 T2) : FlagsE T T2 := ⟨k.1.trans h.1, fun x => (k.2 x).trans (h.2 x)⟩
theorem gain_len (T : TeamL) (k n : Int) : (gainT T k n).sh.length = T.sh.length := by
  unfold gainT
  split
  · simp [putT]
  · rfl
theorem gain_sides (T : TeamL) (k n : Int) : (gainT T k n).sides = T.sides := by
  unfold gainT
  split
  · rfl
  · rfl
theorem gain_in (T : TeamL) (k n x : Int) : inT (gainT T k n) x = inT T x := by unfold inT; rw [gain_len]
theorem flags_gain (T : TeamL) (k n : Int) : FlagsE T (gainT T k n) := by
  refine ⟨gain_len T k n, fun x => ?_⟩
  cases hi : inT T k with
  | false => simp [gainT, hi]
  | true =>
    cases hx : inT T x with
    | false => simp [lostT, gain_in, hx]
    | true =>
      obtain ⟨a, rfl, ha⟩ := in_nat hi
      obtain ⟨c, rfl, hc⟩ := in_nat hx
      rw [lostT_in (by rw [gain_len]; exact hc), lostT_in hc]
      simp only [gainT, hi, if_true, putT, Int.toNat_natCast]
      rw [List.getElem_set]
      split
      · rename_i e; subst e; rw [shAt_in ha]
      · rfl
/-- What a round keeps that changes lives: all but the records and the row of what is shared; and teams stay teams, of which the same have lost. -/
def KpF (lo b s r : Nat) (T : TeamL) (E : Nat → Prop) (W W' : World) : Prop :=
  KpP (fun k => E k ∨ k = r) (fun _ => False) W W' ∧ ((∃ T1, TeamAt W lo b s r T1 ∧ FlagsE T T1) → ∃ T1, TeamAt W' lo b s r T1 ∧ FlagsE T T1)
theorem KpF.trans {lo b s r : Nat} {T : TeamL} {E : Nat → Prop} {A B C : World} (h : KpF lo b s r T E A B) (k : KpF lo b s r T E B C) : KpF lo b s r T E A C := ⟨h.1.trans k.1, fun e => k.2 (h.2 e)⟩
theorem KpF.of_below {lo b s r : Nat} {T : TeamL} {E : Nat → Prop} {W W' : World} (h : Below W.heap.size W W') : KpF lo b s r T E W W' := ⟨KpP.of_below _ _ h, fun ⟨T1, h1, h2⟩ => ⟨T1, h1.later h, h2⟩⟩
theorem KpF.put {lo b s r l : Nat} {T : TeamL} {W : World} {o : Obj} (o' : Obj) (ho : W.heap[l]? = some o) (hc : o.isCells = false) : KpF lo b s r T (fun k => k = l) W (W.putObj l o') := by
  refine ⟨KpP.put o' (.inl rfl) ho hc, fun ⟨T1, h1, h2⟩ => ⟨T1, h1.kept (KpP.put (E := fun k => k = l) (H := fun _ => False) o' rfl ho hc) (fun q hq => ⟨fun e => ?_, fun e => e, fun _ e => e.elim⟩), h2⟩⟩
  subst e
  rcases hq with rfl | rfl | rfl
  · obtain ⟨_, _, h0⟩ := h1.hd
    rw [h0] at ho
    injection ho with ho
    rw [← ho] at hc
    cases hc
  · have h0 := h1.sd.2 0 (by have := h1.n1; omega)
    cases o with
    | cells _ _ _ => cases hc
    | _ => simp [World.cell?, ho] at h0
  · obtain ⟨_, h0, _⟩ := h1.rw
    rw [h0] at ho
    injection ho with ho
    rw [← ho] at hc
    cases hc
theorem KpF.of_gain {lo b s r : Nat} {T T2 : TeamL} {E : Nat → Prop} {W W' : World} (hg : W.grownBy W' (some r)) (h : TeamAt W' lo b s r T2) (hf : FlagsE T T2) : KpF lo b s r T E W W' :=
  ⟨⟨hg.size, fun k o ho hE _ => (hg.block k (Array.getElem?_eq_some_iff.1 ho).1 (by simpa using fun e => hE (.inr e))).trans ho, fun _ _ e _ => e.elim⟩, fun _ => ⟨T2, h, hf⟩⟩
structure HidO (E : Nat → Prop) (r c1 c2 : Nat) : Prop where
  out' : ∀ q, q = c1 ∨ q = c2 → ¬(E q ∨ q = r) ∧ ∀ {W : World}, Off (fun _ => False) W q
set_option maxRecDepth 100000 in
set_option maxHeartbeats 4000000 in
theorem foesT_in (n l c1 c2 lo b s r : Nat) (T : TeamL) (y : Int) (E : Nat → Prop) (W : World) (h1 : HdAt W c1 (.pointer (some ⟨b, 0, none⟩))) (h2 : HdAt W c2 (.int .i64 y)) (h : TeamAt W lo b s r T) (hoff : ∀ q, q = c1 ∨ q = c2 → ¬E q ∧ q ≠ r)
    (J Jx : List Int → World → Prop)
    (hY : ∀ pre (x : Int) W1, J pre W1 → pre ++ [x] <+: foesT T y → YieldAt Fence.wide (n - 1) Tryz.prog l (encF x) W1 fun e W' =>
      (e = .returned (.bool true) ∧ J (pre ++ [x]) W' ∧ KpF lo b s r T E W1 W') ∨ (e = .returned (.bool false) ∧ Jx (pre ++ [x]) W' ∧ KpF lo b s r T E W1 W'))
    (h0 : J [] W) (hn : 1 ≤ n) :
    CallsIn Fence.wide n Tryz.prog 133 #[.func (.yield l) #[] #[], .pointer (some ⟨c1, 0, none⟩), .pointer (some ⟨c2, 0, none⟩)] W fun e W' => (∃ v, e = .returned v) ∧ (J (foesT T y) W' ∨ ∃ pre, pre <+: foesT T y ∧ Jx pre W') := by
  have HL := Lib.hid (tlen_any h)
  have hN4 := h.n2
  unfold foesT at hY ⊢
  obtain ⟨N, hN⟩ : ∃ N, T.sh.length = N := ⟨_, rfl⟩
  rw [hN] at HL hY hN4 ⊢
  have HY := Lib.hid hY
  have H0 := Lib.hid h0
  have HT := Lib.hid h
  have HO : HidO E r c1 c2 := ⟨fun q hq => ⟨fun e => e.elim (hoff q hq).1 (hoff q hq).2, fun {_} => ⟨fun e => e, fun _ e => e.elim⟩⟩⟩
  have HC1 := Lib.hid h1
  have HC2 := Lib.hid h2
  have k1 := h1.cell
  clear hY h0 h hoff h1 h2
  refine callsIn_of_wp Tryz.func133 rfl trivial ?_ rfl
  simp only [Tryz.ntmps133, List.size_toArray, List.length_cons, List.length_nil, Nat.reduceAdd, Nat.reduceSub, Array.replicate_succ, Array.replicate_zero, List.push_toArray, List.append_toArray, List.nil_append, List.cons_append]
  gi_wp2_with fail
  refine ⟨trivial, (callsIn_wide.2 HL.out).mono ?_⟩
  rintro e w1 ⟨rfl, rfl⟩
  clear k1
  gi_wp2
  gi_loopw [7] (fun i wr => ∃ k : Nat, k ≤ N ∧ i = .int .i64 (k : Int) ∧ Hid (J (upTo (foeB T y) k) wr) ∧ Hid ((∃ T', TeamAt wr lo b s r T' ∧ FlagsE T T') ∧ HdAt wr c1 (.pointer (some ⟨b, 0, none⟩)) ∧ HdAt wr c2 (.int .i64 y))) (fun i _ => N - (intOf i).toNat)
  case atStart => exact ⟨0, Nat.zero_le _, rfl, H0, Lib.hid ⟨⟨T, HT.out, FlagsE.refl T⟩, HC1.out, HC2.out⟩⟩
  case round =>
    obtain ⟨k, hk, rfl, HJR, HS⟩ := hrel
    by_cases hlt : k < N
    · have d0 : decide ((k : Int) < N) = true := decide_eq_true (by omega)
      have k1 := HS.out.2.1.cell
      have k2 := HS.out.2.2.cell
      have HLO : Hid (Calls Tryz.prog 112 #[.pointer (some ⟨b, 0, none⟩), .int .i64 (k : Int)] wr (Same wr (.bool (lostT T k)))) := Lib.hid (by
        obtain ⟨T', ht', hf'⟩ := HS.out.1
        rw [← hf'.2 k]
        exact tlost_any ht' k)
      by_cases hky : (k : Int) = y
      · have HNO := Lib.hid (upTo_no (p := foeB T y) (k := k) (by simp [foeB, hky]))
        have e0 : ((k : Int) != y) = false := by rw [hky]; exact bne_self_eq_false _
        clear hky HLO
        gi_wp2
        refine ⟨trivial, ?_⟩
        gi_wp2
        refine ⟨(fun _ h => by cases h), ?_⟩
        gi_wp2
        go_roundw
        case rel => exact ⟨k + 1, by omega, by go_num, by rw [HNO.out]; exact HJR, HS⟩
        case measure => simp [intOf]; omega
      · have e0 : ((k : Int) != y) = true := bne_iff_ne.2 hky
        cases hlo : lostT T k with
        | true =>
          have HNO := Lib.hid (upTo_no (p := foeB T y) (k := k) (by simp [foeB, hlo]))
          rw [hlo] at HLO
          clear hky hlo
          gi_wp2_with fail
          refine ⟨trivial, (callsIn_wide.2 HLO.out).mono ?_⟩
          rintro e w2 ⟨rfl, rfl⟩
          gi_wp2
          refine ⟨(fun _ h => by cases h), ?_⟩
          gi_wp2
          go_roundw
          case rel => exact ⟨k + 1, by omega, by go_num, by rw [HNO.out]; exact HJR, HS⟩
          case measure => simp [intOf]; omega
        | false =>
          have HYES := Lib.hid (upTo_yes (p := foeB T y) (k := k) (by simp [foeB, hlo, hky]))
          rw [hlo] at HLO
          clear hky hlo
          obtain ⟨fn, tmps, assign, body, hy, hR⟩ := HY.out (upTo (foeB T y) k) k wr HJR.out (by rw [← HYES.out]; exact upTo_pre _ _ _ (by omega))
          unfold encF at hy
          gi_wp2_with fail
          refine ⟨trivial, (callsIn_wide.2 HLO.out).mono ?_⟩
          rintro e w2 ⟨rfl, rfl⟩
          gi_wp2
          refine hR.mono ?_
          rintro e w3 (⟨rfl, hJ3, hk3⟩ | ⟨rfl, hJ3, hk3⟩)
          · have HJ3 := Lib.hid hJ3
            have HS3 : Hid ((∃ T', TeamAt w3 lo b s r T' ∧ FlagsE T T') ∧ HdAt w3 c1 (.pointer (some ⟨b, 0, none⟩)) ∧ HdAt w3 c2 (.int .i64 y)) := Lib.hid (by
              obtain ⟨s1, s2, s3⟩ := HS.out
              exact ⟨hk3.2 s1, s2.kept hk3.1 ⟨(HO.out' c1 (.inl rfl)).1, (HO.out' c1 (.inl rfl)).2⟩, s3.kept hk3.1 ⟨(HO.out' c2 (.inr rfl)).1, (HO.out' c2 (.inr rfl)).2⟩⟩)
            clear hJ3 hk3 hy hR k1 k2
            gi_wp2
            go_roundw
            case rel => exact ⟨k + 1, by omega, by go_num, Lib.hid (by rw [HYES.out]; exact HJ3.out), HS3⟩
            case measure => simp [intOf]; omega
          · have HJ3 := Lib.hid hJ3
            clear hJ3 hk3 hy hR k1 k2
            gi_wp2
            refine bodyPost_ret (results_none rfl _ _ _) rfl ?_
            exact ⟨⟨_, rfl⟩, .inr ⟨_, by rw [← HYES.out]; exact upTo_pre _ _ _ (by omega), HJ3.out⟩⟩
    · obtain rfl : k = N := by omega
      gi_wp2
      go_end0
      exact ⟨⟨_, rfl⟩, .inl HJR.out⟩
theorem foesT_seq (n : Nat) (hn : 1 ≤ n) {w : World} {c1 c2 lo b s r : Nat} {T : TeamL} {y : Int} (h1 : HdAt w c1 (.pointer (some ⟨b, 0, none⟩))) (h2 : HdAt w c2 (.int .i64 y)) (h : TeamAt w lo b s r T) (hoff : c1 ≠ r ∧ c2 ≠ r) :
    SeqW Fence.wide n Tryz.prog 133 #[.pointer (some ⟨c1, 0, none⟩), .pointer (some ⟨c2, 0, none⟩)] encF (fun l => KpF lo b s r T (fun k => k = l)) (fun pre x => pre ++ [x] <+: foesT T y) (fun xs _ => xs = foesT T y) (fun pre _ => pre <+: foesT T y) w := by
  intro l J Jx W hW hl1 hl2 hJ _ hY h0
  have hc1 := h1.lt
  have hc2 := h2.lt
  refine (foesT_in n l c1 c2 lo b s r T y (fun k => k = l) W (h1.later hW) (h2.later hW) (h.later hW) (fun q hq => ⟨fun e => ?_, ?_⟩) J Jx ?_ h0 hn).mono ?_
  · subst e
    rcases hq with h | h <;> omega
  · rcases hq with h | h <;> subst h
    · exact hoff.1
    · exact hoff.2
  · intro pre x W1 hj ht
    obtain ⟨fn, tmps, assign, body, hy, hR⟩ := hY pre x W1 hj ht
    exact ⟨fn, tmps, assign, body, hy, roundIn_wide hR⟩
  · rintro e W' ⟨h1, h2 | h2⟩
    · exact ⟨h1, .inl ⟨_, rfl, h2⟩⟩
    · exact ⟨h1, .inr h2⟩
/-- Each of some teams loses life. -/
def drainL (T : TeamL) (n : Int) (l : List Int) : TeamL := l.foldl (fun T x => gainT T x (-n)) T
theorem drain_snoc (T : TeamL) (n : Int) (l : List Int) (x : Int) : drainL T n (l ++ [x]) = gainT (drainL T n l) x (-n) := by simp [drainL]
theorem drain_flags (T : TeamL) (n : Int) : ∀ l : List Int, FlagsE T (drainL T n l) ∧ (drainL T n l).sides = T.sides := fun l => by
  induction l generalizing T with
  | nil => exact ⟨FlagsE.refl T, rfl⟩
  | cons x l ih =>
    have h := ih (gainT T x (-n))
    exact ⟨(flags_gain T x (-n)).trans h.1, h.2.trans (gain_sides T x (-n))⟩
def drainT (T : TeamL) (seat n : Int) : TeamL := drainL T n (foesT T (ofT T seat))
/-- What drain's range holds. -/
structure DrainI (w0 : World) (lo : Nat) (g : GhostB) (B : BoardL) (n : Int) (q3 q5 : Nat) (pre : List Int) (W : World) : Prop where
  bd : BoardAt W lo g ⟨B.S, drainL B.T n pre, B.D⟩
  tu : TurnedB w0 W g g
  c3 : HdAt W q3 (.pointer (some ⟨g.q, 0, none⟩))
  c5 : HdAt W q5 (.int .i64 n)
theorem drainI_own {w0 : World} {lo q3 q5 N : Nat} {g : GhostB} {B : BoardL} {n : Int} (hN : ∀ k, g.own k → k < N) (h0 : w0.heap.size ≤ N) : OwnFrom N (DrainI w0 lo g B n q3 q5) := fun pre A W row hs hg hr => by
  have hne : ∀ k, k < N → some k ≠ row := fun k hk e => by have := (hr k e.symm).1; omega
  refine ⟨hs.bd.kept hg.size fun k hk => hg.block k (hs.bd.ownLt hk) (hne k (hN k hk)), ⟨hg.os.trans hs.tu.os, hg.tape.trans hs.tu.tape, hg.output.trans hs.tu.output, Nat.le_trans hs.tu.size hg.size, fun k hk he => (hg.block k (Nat.lt_of_lt_of_le hk hs.tu.size) (hne k (by omega))).trans (hs.tu.block k hk he), fun _ _ h => h⟩, hs.c3.grown hg (fun r e => (hr r e).2), hs.c5.grown hg (fun r e => (hr r e).2)⟩
set_option maxRecDepth 100000 in
set_option maxHeartbeats 8000000 in
theorem drain_any {w : World} {lo : Nat} {g : GhostB} {B : BoardL} (h : BoardAt w lo g B) (seat n : Int) (h0 : 0 ≤ n) (h20 : n ≤ 20) :
    Calls Tryz.prog 82 #[.pointer (some ⟨g.q, 0, none⟩), .int .i64 seat, .int .i64 n] w (RetBd w lo g ⟨B.S, drainT B.T seat n, B.D⟩ (.tuple #[])) := by
  have hb1 := below_new w (.cells #[.pointer (some ⟨g.q, 0, none⟩)] 28)
  have hb2 := below_alloc2 hb1 (.cells #[.int .i64 n] 3)
  obtain ⟨W, hW⟩ : ∃ W, (w.alloc (.cells #[.pointer (some ⟨g.q, 0, none⟩)] 28)).alloc (.cells #[.int .i64 n] 3) = W := ⟨_, rfl⟩
  have hq3 : W.heap[w.heap.size]? = some (.cells #[.pointer (some ⟨g.q, 0, none⟩)] 28) := by
    rw [← hW, Below.heap_alloc _ _ _ (by simp)]
    exact heap_alloc_new _ _
  have hq5 : W.heap[w.heap.size + 1]? = some (.cells #[.int .i64 n] 3) := by
    have := heap_alloc_new (w.alloc (.cells #[.pointer (some ⟨g.q, 0, none⟩)] 28)) (.cells #[.int .i64 n] 3)
    rw [World.size_alloc] at this
    rw [← hW]
    exact this
  have hH3 : HdAt W w.heap.size (.pointer (some ⟨g.q, 0, none⟩)) := ⟨_, hq3⟩
  have hH5 : HdAt W (w.heap.size + 1) (.int .i64 n) := ⟨_, hq5⟩
  have hbW : Below w.heap.size w W := by rw [← hW]; exact hb2
  have HSZ := Lib.hid (show W.heap.size = w.heap.size + 2 by rw [← hW]; simp)
  have HBD := Lib.hid (h.later hbW)
  have HQ := Lib.hid h.lt
  have HRL := Lib.hid h.tm.ltr
  have HTU := Lib.hid (TurnedB.of_below (g := g) hbW)
  have HOL := Lib.hid (fun k hk => (h.later hbW).ownLt (k := k) hk)
  have c3 := hH3.cell
  have c5 := hH5.cell
  obtain ⟨_, c1, -⟩ := (h.later hbW).cells
  have HH3 := Lib.hid hH3
  have HH5 := Lib.hid hH5
  have HOF := Lib.hid (fun (w' : World) (hb : Below W.heap.size W w') => tof_any ((h.later hbW).tm.later hb) seat)
  have HI := Lib.hid (show Below W.heap.size W W ∧ W.cell? ⟨w.heap.size, 0, none⟩ = some (.pointer (some ⟨g.q, 0, none⟩)) ∧ W.cell? ⟨g.q, 1, none⟩ = some (.pointer (some ⟨g.tb, 0, none⟩)) from ⟨Below.refl _ _, c3, c1⟩)
  have HWE := Lib.hid hW
  clear h hb1 hb2 hW hq3 hq5 hH3 hH5 hbW c3 c5 c1
  unfold RetBd drainT
  refine (callsIn_wide (n := 9)).1 ?_
  refine callsIn_of_wp_marks Tryz.func82 rfl trivial ?_ rfl
  simp only [Tryz.ntmps82, List.size_toArray, List.length_cons, List.length_nil, Nat.reduceAdd, Nat.reduceSub, Array.replicate_succ, Array.replicate_zero, List.push_toArray, List.append_toArray, List.nil_append, List.cons_append]
  refine wpIn_wide.2 ?_
  go_upto_region 1 with fail
  rw [HWE.out]
  try simp only [World.size_alloc]
  obtain ⟨q3, hq3⟩ : ∃ q, w.heap.size = q := ⟨_, rfl⟩
  rw [hq3] at HSZ HH3 HH5 HI ⊢
  go_region_held3 (fun w' => Below W.heap.size W w' ∧ w'.cell? ⟨q3, 0, none⟩ = some (.pointer (some ⟨g.q, 0, none⟩)) ∧ w'.cell? ⟨g.q, 1, none⟩ = some (.pointer (some ⟨g.tb, 0, none⟩)))
    (first | assumption | (with_reducible exact HI.out) | exact keepB2 ((Below.refl _ _).drew) HI.out | exact keepB2 (by assumption) (by assumption))
    (first
      | (go_at_call 16; refine (HOF.out _ (And.left (by assumption))).mono ?_; rintro e w2 ⟨rfl, rfl⟩)
      | (go_at_call 117; refine (foes_any _ _ _).mono ?_; rintro e w2 ⟨rfl, hd1, hd2, hb2, hs2⟩))
  have hHW : Below W.heap.size W w2 := And.left (by assumption)
  have esz : W.drew.heap.size = W.heap.size := rfl
  rw [esz] at hd1 hd2 hs2
  have HBW := Lib.hid hHW
  rename_i hHeld
  clear hHeld
  obtain ⟨y, hy⟩ : ∃ y, ofT B.T seat = y := ⟨_, rfl⟩
  have hbd2 := HBD.out.later hHW
  have HSEQ := Lib.hid (foesT_seq 8 (by omega) (hd1 : HdAt w2 W.heap.size (.pointer (some ⟨g.tb, 0, none⟩))) ((by rw [hy] at hd2; exact hd2) : HdAt w2 (W.heap.size + 1) (.int .i64 y)) hbd2.tm ⟨by have := HBD.out.tm.ltr; omega, by have := HBD.out.tm.ltr; omega⟩)
  have HI0 : Hid (DrainI w lo g B n q3 (q3 + 1) [] w2) := Lib.hid ⟨hbd2, HTU.out.trans (TurnedB.of_below hHW), HH3.out.later hHW, HH5.out.later hHW⟩
  have HSZ2 := Lib.hid (show q3 + 4 ≤ w2.heap.size by have := HSZ.out; omega)
  have HQ3 := Lib.hid hq3
  rw [hy]
  have HYY := Lib.hid hy
  clear hd1 hd2 hb2 hs2 hHW esz hbd2 hq3 hy HOF HI
  obtain ⟨m1, hm1⟩ : ∃ m, W.heap.size = m := ⟨_, rfl⟩
  obtain ⟨m2, hm2⟩ : ∃ m, W.heap.size + 1 = m := ⟨_, rfl⟩
  rw [hm2] at HSEQ ⊢
  rw [hm1] at HSEQ HOL HSZ ⊢
  clear hm1 hm2
  go_wp2_with fail
  refine (wpIn_wide (n := 9)).1 ?_
  refine range_world3 rfl (by omega) (I := DrainI w lo g B n q3 (q3 + 1)) (Ix := fun _ _ _ => False) (gf := 133) (lb := _) rfl trivial (fun _ _ => by kernel_rfl) HSEQ.out KpF.trans (fun W' o o' ho hc _ => KpF.put o' ho hc) (fun W W' hb => KpF.of_below hb) (Below.refl _ _) (fun _ => rfl)
    (drainI_own (fun k hk => HI0.out.bd.ownLt hk) HI0.out.tu.size) (fun c s A B row hs hg hr => hs) (fun s A B row hs hg hr => hs) (fun s A B row hs hg hr => hs) HI0.out ?round ?done ?stop
  case stop =>
    rintro D c pre W hD hS hI hK
    exact hI.elim
  case round =>
    rintro pre x W1 K hI hT hsz hK
    have HK := Lib.hid hK
    clear hK hT hI
    simp only [encF]
    simp
    gi_wp2
    refine HK.out _ _ (Below.refl _ _) ?_
    clear HK
    intro Wb hsz2 hrest hkw hIb
    have HIB := Lib.hid hIb
    have HKW := Lib.hid hkw
    have k3 := hIb.c3.cell
    have k5 := hIb.c5.cell
    obtain ⟨_, k1, -⟩ := hIb.bd.cells
    have HGA := Lib.hid (tgain_any (hIb.bd.tm.later ((Below.refl Wb.heap.size Wb).drew)) x (-n))
    obtain ⟨ev, hev⟩ : ∃ v : Int, (if inT (drainL B.T n pre) x then (0 : Int) else 2) = v := ⟨_, rfl⟩
    dsimp only at HGA
    rw [hev] at HGA
    clear hsz2 hrest hkw hIb hev
    have h20n : -20 ≤ -n := by omega
    have h0n : -n ≤ 0 := by omega
    have hwr : IntKind.i64.wrap (-n) = -n := IntWalk.i64_in _ (by omega)
    gi_upto_region 3 with fail
    refine wpIn_region_any (by kernel_rfl) ?_
    change wpAnyIn _ _ _ _ _ _ _ _ _ (World.drew _)
    refine anyC.any (c := 7) (S := fun w' => w'.cell? ⟨q3, 0, none⟩ = some (.pointer (some ⟨g.q, 0, none⟩)) ∧ w'.cell? ⟨g.q, 1, none⟩ = some (.pointer (some ⟨g.tb, 0, none⟩)) ∧ w'.cell? ⟨q3 + 1, 0, none⟩ = some (.int .i64 n)) ?_
    refine anyC_take [1, 2, 3, 7] (i := 0) (v := ?_) (by decide) (by decide) (by kernel_rfl) (by kernel_rfl) (by kernel_rfl) (by kernel_rfl) rfl (by kernel_rfl) (by kernel_rfl) (by kernel_rfl) (fun _ _ _ h => h) (by rfl) (fun _ => rfl) ?_ ?_
    rotate_left
    · intro w' hS
      obtain ⟨s3, s1, s5⟩ := hS
      go_simp
      try with_reducible rfl
    refine anyC_take [2, 3, 7] (i := 1) (v := ?_) (by decide) (by decide) (by kernel_rfl) (by kernel_rfl) (by kernel_rfl) (by kernel_rfl) rfl (by kernel_rfl) (by kernel_rfl) (by kernel_rfl) (fun _ _ _ h => h) (by rfl) (fun _ => rfl) ?_ ?_
    rotate_left
    · intro w' hS
      go_simp
      try with_reducible rfl
    refine anyC_take [3, 7] (i := 2) (v := ?_) (by decide) (by decide) (by kernel_rfl) (by kernel_rfl) (by kernel_rfl) (by kernel_rfl) rfl (by kernel_rfl) (by kernel_rfl) (by kernel_rfl) (fun _ _ _ h => h) (by rfl) (fun _ => rfl) ?_ ?_
    rotate_left
    · intro w' hS
      go_simp
      try with_reducible rfl
    refine anyC_take [7] (i := 3) (v := ?_) (by decide) (by decide) (by kernel_rfl) (by kernel_rfl) (by kernel_rfl) (by kernel_rfl) rfl (by kernel_rfl) (by kernel_rfl) (by kernel_rfl) (fun _ _ _ h => h) (by rfl) (fun _ => rfl) ?_ ?_
    rotate_left
    · intro w' hS
      obtain ⟨s3, s1, s5⟩ := hS
      go_simp
      try with_reducible rfl
    refine anyC_take [7] (i := 4) (v := ?_) (by decide) (by decide) (by kernel_rfl) (by kernel_rfl) (by kernel_rfl) (by kernel_rfl) rfl (by kernel_rfl) (by kernel_rfl) (by kernel_rfl) (fun _ _ _ h => h) (by rfl) (fun _ => rfl) ?_ ?_
    rotate_left
    · intro w' hS
      go_simp
      try with_reducible rfl
    refine anyC_take [6, 7] (i := 5) (v := ?_) (by decide) (by decide) (by kernel_rfl) (by kernel_rfl) (by kernel_rfl) (by kernel_rfl) rfl (by kernel_rfl) (by kernel_rfl) (by kernel_rfl) (fun _ _ _ h => h) (by rfl) (fun _ => rfl) ?_ ?_
    rotate_left
    · intro w' hS
      obtain ⟨s3, s1, s5⟩ := hS
      go_simp
      try with_reducible rfl
    refine anyC_take [7] (i := 6) (v := ?_) (by decide) (by decide) (by kernel_rfl) (by kernel_rfl) (by kernel_rfl) (by kernel_rfl) rfl (by kernel_rfl) (by kernel_rfl) (by kernel_rfl) (fun _ _ _ h => h) (by rfl) (fun _ => rfl) ?_ ?_
    rotate_left
    · intro w' hS
      go_simp
      try with_reducible rfl
    refine anyC_one (i := 7) (by kernel_rfl) rfl (fun _ => ⟨cell_stays (Below.refl Wb.heap.size Wb).drew k3, cell_stays (Below.refl Wb.heap.size Wb).drew k1, cell_stays (Below.refl Wb.heap.size Wb).drew k5⟩) (fun K hK => ?_)
    go_simp
    gi_wp2_with ((refine ⟨trivial, ?_⟩; gi_at_call 51; refine CallsIn.mono (F := Fence.wide) (callsIn_wide.2 (HGA.out)) ?_; rintro e w6 ⟨rfl, ht6, hg6⟩; dsimp only))
    have hrq : g.r < q3 := by have := HRL.out; have := HQ3.out; omega
    have hdr := (Below.refl Wb.heap.size Wb).drew
    have hgn := ((flags_gain (drainL B.T n pre) x (-n)))
    have HF : Hid (KpF lo g.tb g.s g.r B.T (fun k => k = w2.heap.size + 1) Wb w6) := Lib.hid ((KpF.of_below hdr).trans (KpF.of_gain hg6 ht6 ((drain_flags B.T n pre).1.trans hgn)))
    have HP : Hid (KeepsFrom w2.heap.size Wb w6) := Lib.hid ⟨hg6.size, fun k o hB ho _ => (hg6.block k (Array.getElem?_eq_some_iff.1 ho).1 (by simpa using (show k ≠ g.r by have := HSZ2.out; omega))).trans ho⟩
    have hbt := (HIB.out.bd.later hdr).withT ht6 hg6 (congrArg List.length (gain_sides _ _ _))
    have HN : Hid (DrainI w lo g B n q3 (q3 + 1) (pre ++ [x]) w6) := Lib.hid (by
      refine ⟨by rw [drain_snoc]; exact hbt.1, HIB.out.tu.trans ((TurnedB.of_below hdr).trans hbt.2), ?_, ?_⟩
      · obtain ⟨t3, h3⟩ := HIB.out.c3
        exact ⟨t3, (hg6.block q3 (Array.getElem?_eq_some_iff.1 h3).1 (by simpa using (show q3 ≠ g.r by omega))).trans h3⟩
      · obtain ⟨t3, h3⟩ := HIB.out.c5
        exact ⟨t3, (hg6.block (q3 + 1) (Array.getElem?_eq_some_iff.1 h3).1 (by simpa using (show q3 + 1 ≠ g.r by omega))).trans h3⟩)
    clear ht6 hg6 hrq hdr hgn hbt k3 k5 k1
    refine anyC_done (by kernel_rfl) (fun h => absurd ((show Array.getD _ 7 true = true by kernel_rfl).symm.trans h) (by decide)) ?_ _
    gi_wp2
    exact ⟨HP.out, HKW.out.trans HF.out, HN.out⟩
  case done =>
    rintro D ys W2 hD hS hI hK
    subst hS
    have HI2 := Lib.hid hI
    have HK2 := Lib.hid hK
    have HDD := Lib.hid hD
    clear hD hI hK
    go_wp2
    refine leaves_marksO (B := w2.heap.size) [D] _ (by simp) (fun D' hD' => by obtain rfl := List.mem_singleton.1 hD'; exact HDD.out) (fun D' hD' => by obtain rfl := List.mem_singleton.1 hD'; exact HK2.out) (fun W3 hb hc => ?_)
    refine ⟨_, results_none rfl _ _ _, rfl, g, ?_, ?_, rfl⟩
    · refine BoardAt.kept ?_ hb.size (fun k hk => hb.block k (HI0.out.bd.ownLt hk))
      rw [HYY.out]
      exact HI2.out.bd
    · have h1 := HI2.out.tu
      exact ⟨hb.os.trans h1.os, hb.tape.trans h1.tape, hb.output.trans h1.output, Nat.le_trans h1.size hb.size, fun k hk he => (hb.block k (Nat.lt_of_lt_of_le hk HI0.out.tu.size)).trans (h1.block k hk he), fun _ _ e => e⟩
end Go.Proofs.YtgjojjhppgjkkaaGreat
