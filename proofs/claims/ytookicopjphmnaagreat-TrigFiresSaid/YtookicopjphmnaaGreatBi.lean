/- Foes whose rounds change lives; what Drain does to the other teams (layer 11). What a term does to a board, once it may be done (layer 11): hurt, work. Terms that are done (layer 11): Do, All. Terms one by one (layer 11): All; what isn't there does nothing. -/
import Derived.Test.YtookicopjphmnaaGreatBd
import Derived.Test.YtookicopjphmnaaGreatOt
import Derived.Deep.RegionHeld3
import Derived.Sort.CutIn
import Derived.StillTailTactics
namespace Go.Proofs.YtookicopjphmnaaGreat
open Go.RowKit Go.Maps
attribute [local go_sem] Oper.semAt_some

theorem keepB2 {A w w' : World} {a0 a1 : Addr} {v0 v1 : Value} (hb : Below w.heap.size w w') (h : Below A.heap.size A w ∧ w.cell? a0 = some v0 ∧ w.cell? a1 = some v1) : Below A.heap.size A w' ∧ w'.cell? a0 = some v0 ∧ w'.cell? a1 = some v1 :=
  ⟨stepB h.1 hb, cell_stays hb h.2.1, cell_stays hb h.2.2⟩
/-- The same teams have lost. -/
def FlagsE (T T' : TeamL) : Prop := T'.sh.length = T.sh.length ∧ ∀ k, lostT T' k = lostT T k
theorem FlagsE.refl (T : TeamL) : FlagsE T T := ⟨rfl, fun _ => rfl⟩
theorem FlagsE.trans {T T1 T2 : TeamL} (h : FlagsE T T1) (k : FlagsE T1 T2) : FlagsE T T2 := ⟨k.1.trans h.1, fun x => (k.2 x).trans (h.2 x)⟩
theorem gain_len (T : TeamL) (k n : Int) : (gainT T k n).sh.length = T.sh.length := by
  unfold gainT
  split
  · simp [putT]
  · rfl
theorem gain_sides (T : TeamL) (k n : Int) : (gainT T k n).sides = T.sides := by
  unfold gainT
  split
  · rfl
  · rfl
theorem gain_in (T : TeamL) (k n x : Int) : inT (gainT T k n) x = inT T x := by unfold inT; rw [gain_len]
theorem flags_gain (T : TeamL) (k n : Int) : FlagsE T (gainT T k n) := by
  refine ⟨gain_len T k n, fun x => ?_⟩
  cases hi : inT T k with
  | false => simp [gainT, hi]
  | true =>
    cases hx : inT T x with
    | false => simp [lostT, gain_in, hx]
    | true =>
      obtain ⟨a, rfl, ha⟩ := in_nat hi
      obtain ⟨c, rfl, hc⟩ := in_nat hx
      rw [lostT_in (by rw [gain_len]; exact hc), lostT_in hc]
      simp only [gainT, hi, if_true, putT, Int.toNat_natCast]
      rw [List.getElem_set]
      split
      · rename_i e; subst e; rw [shAt_in ha]
      · rfl
/-- What a round keeps that changes lives: all but the records and the row of what is shared; and teams stay teams, of which the same have lost. -/
def KpF (lo b s r : Nat) (T : TeamL) (E : Nat → Prop) (W W' : World) : Prop :=
  KpP (fun k => E k ∨ k = r) (fun _ => False) W W' ∧ ((∃ T1, TeamAt W lo b s r T1 ∧ FlagsE T T1) → ∃ T1, TeamAt W' lo b s r T1 ∧ FlagsE T T1)
theorem KpF.trans {lo b s r : Nat} {T : TeamL} {E : Nat → Prop} {A B C : World} (h : KpF lo b s r T E A B) (k : KpF lo b s r T E B C) : KpF lo b s r T E A C := ⟨h.1.trans k.1, fun e => k.2 (h.2 e)⟩
theorem KpF.of_below {lo b s r : Nat} {T : TeamL} {E : Nat → Prop} {W W' : World} (h : Below W.heap.size W W') : KpF lo b s r T E W W' := ⟨KpP.of_below _ _ h, fun ⟨T1, h1, h2⟩ => ⟨T1, h1.later h, h2⟩⟩
theorem KpF.put {lo b s r l : Nat} {T : TeamL} {W : World} {o : Obj} (o' : Obj) (ho : W.heap[l]? = some o) (hc : o.isCells = false) : KpF lo b s r T (fun k => k = l) W (W.putObj l o') := by
  refine ⟨KpP.put o' (.inl rfl) ho hc, fun ⟨T1, h1, h2⟩ => ⟨T1, h1.kept (KpP.put (E := fun k => k = l) (H := fun _ => False) o' rfl ho hc) (fun q hq => ⟨fun e => ?_, fun e => e, fun _ e => e.elim⟩), h2⟩⟩
  subst e
  rcases hq with rfl | rfl | rfl
  · obtain ⟨_, _, h0⟩ := h1.hd
    rw [h0] at ho
    injection ho with ho
    rw [← ho] at hc
    cases hc
  · have h0 := h1.sd.2 0 (by have := h1.n1; omega)
    cases o with
    | cells _ _ _ => cases hc
    | _ => simp [World.cell?, ho] at h0
  · obtain ⟨_, h0, _⟩ := h1.rw
    rw [h0] at ho
    injection ho with ho
    rw [← ho] at hc
    cases hc
theorem KpF.of_gain {lo b s r : Nat} {T T2 : TeamL} {E : Nat → Prop} {W W' : World} (hg : W.grownBy W' (some r)) (h : TeamAt W' lo b s r T2) (hf : FlagsE T T2) : KpF lo b s r T E W W' :=
  ⟨⟨hg.size, fun k o ho hE _ => (hg.block k (Array.getElem?_eq_some_iff.1 ho).1 (by simpa using fun e => hE (.inr e))).trans ho, fun _ _ e _ => e.elim⟩, fun _ => ⟨T2, h, hf⟩⟩
structure HidO (E : Nat → Prop) (r c1 c2 : Nat) : Prop where
  out' : ∀ q, q = c1 ∨ q = c2 → ¬(E q ∨ q = r) ∧ ∀ {W : World}, Off (fun _ => False) W q
set_option maxRecDepth 100000 in
set_option maxHeartbeats 4000000 in
theorem foesT_in (n l c1 c2 lo b s r : Nat) (T : TeamL) (y : Int) (E : Nat → Prop) (W : World) (h1 : HdAt W c1 (.pointer (some ⟨b, 0, none⟩))) (h2 : HdAt W c2 (.int .i64 y)) (h : TeamAt W lo b s r T) (hoff : ∀ q, q = c1 ∨ q = c2 → ¬E q ∧ q ≠ r)
    (J Jx : List Int → World → Prop)
    (hY : ∀ pre (x : Int) W1, J pre W1 → pre ++ [x] <+: foesT T y → YieldAt Fence.wide (n - 1) Tryz.prog l (encF x) W1 fun e W' =>
      (e = .returned (.bool true) ∧ J (pre ++ [x]) W' ∧ KpF lo b s r T E W1 W') ∨ (e = .returned (.bool false) ∧ Jx (pre ++ [x]) W' ∧ KpF lo b s r T E W1 W'))
    (h0 : J [] W) (hn : 1 ≤ n) :
    CallsIn Fence.wide n Tryz.prog 132 #[.func (.yield l) #[] #[], .pointer (some ⟨c1, 0, none⟩), .pointer (some ⟨c2, 0, none⟩)] W fun e W' => (∃ v, e = .returned v) ∧ (J (foesT T y) W' ∨ ∃ pre, pre <+: foesT T y ∧ Jx pre W') := by
  have HL := Lib.hid (tlen_any h)
  have hN4 := h.n2
  unfold foesT at hY ⊢
  obtain ⟨N, hN⟩ : ∃ N, T.sh.length = N := ⟨_, rfl⟩
  rw [hN] at HL hY hN4 ⊢
  have HY := Lib.hid hY
  have H0 := Lib.hid h0
  have HT := Lib.hid h
  have HO : HidO E r c1 c2 := ⟨fun q hq => ⟨fun e => e.elim (hoff q hq).1 (hoff q hq).2, fun {_} => ⟨fun e => e, fun _ e => e.elim⟩⟩⟩
  have HC1 := Lib.hid h1
  have HC2 := Lib.hid h2
  have k1 := h1.cell
  clear hY h0 h hoff h1 h2
  refine callsIn_of_wp Tryz.func132 rfl trivial ?_ rfl
  simp only [Tryz.ntmps132, List.size_toArray, List.length_cons, List.length_nil, Nat.reduceAdd, Nat.reduceSub, Array.replicate_succ, Array.replicate_zero, List.push_toArray, List.append_toArray, List.nil_append, List.cons_append]
  gi_wp2_with fail
  refine ⟨trivial, (callsIn_wide.2 HL.out).mono ?_⟩
  rintro e w1 ⟨rfl, rfl⟩
  clear k1
  gi_wp2
  gi_loopw [7] (fun i wr => ∃ k : Nat, k ≤ N ∧ i = .int .i64 (k : Int) ∧ Hid (J (upTo (foeB T y) k) wr) ∧ Hid ((∃ T', TeamAt wr lo b s r T' ∧ FlagsE T T') ∧ HdAt wr c1 (.pointer (some ⟨b, 0, none⟩)) ∧ HdAt wr c2 (.int .i64 y))) (fun i _ => N - (intOf i).toNat)
  case atStart => exact ⟨0, Nat.zero_le _, rfl, H0, Lib.hid ⟨⟨T, HT.out, FlagsE.refl T⟩, HC1.out, HC2.out⟩⟩
  case round =>
    obtain ⟨k, hk, rfl, HJR, HS⟩ := hrel
    by_cases hlt : k < N
    · have d0 : decide ((k : Int) < N) = true := decide_eq_true (by omega)
      have k1 := HS.out.2.1.cell
      have k2 := HS.out.2.2.cell
      have HLO : Hid (Calls Tryz.prog 22 #[.pointer (some ⟨b, 0, none⟩), .int .i64 (k : Int)] wr (Same wr (.bool (lostT T k)))) := Lib.hid (by
        obtain ⟨T', ht', hf'⟩ := HS.out.1
        rw [← hf'.2 k]
        exact tlost_any ht' k)
      by_cases hky : (k : Int) = y
      · have HNO := Lib.hid (upTo_no (p := foeB T y) (k := k) (by simp [foeB, hky]))
        have e0 : ((k : Int) != y) = false := by rw [hky]; exact bne_self_eq_false _
        clear hky HLO
        gi_wp2
        refine ⟨trivial, ?_⟩
        gi_wp2
        refine ⟨(fun _ h => by cases h), ?_⟩
        gi_wp2
        go_roundw
        case rel => exact ⟨k + 1, by omega, by go_num, by rw [HNO.out]; exact HJR, HS⟩
        case measure => simp [intOf]; omega
      · have e0 : ((k : Int) != y) = true := bne_iff_ne.2 hky
        cases hlo : lostT T k with
        | true =>
          have HNO := Lib.hid (upTo_no (p := foeB T y) (k := k) (by simp [foeB, hlo]))
          rw [hlo] at HLO
          clear hky hlo
          gi_wp2_with fail
          refine ⟨trivial, (callsIn_wide.2 HLO.out).mono ?_⟩
          rintro e w2 ⟨rfl, rfl⟩
          gi_wp2
          refine ⟨(fun _ h => by cases h), ?_⟩
          gi_wp2
          go_roundw
          case rel => exact ⟨k + 1, by omega, by go_num, by rw [HNO.out]; exact HJR, HS⟩
          case measure => simp [intOf]; omega
        | false =>
          have HYES := Lib.hid (upTo_yes (p := foeB T y) (k := k) (by simp [foeB, hlo, hky]))
          rw [hlo] at HLO
          clear hky hlo
          obtain ⟨fn, tmps, assign, body, hy, hR⟩ := HY.out (upTo (foeB T y) k) k wr HJR.out (by rw [← HYES.out]; exact upTo_pre _ _ _ (by omega))
          unfold encF at hy
          gi_wp2_with fail
          refine ⟨trivial, (callsIn_wide.2 HLO.out).mono ?_⟩
          rintro e w2 ⟨rfl, rfl⟩
          gi_wp2
          refine hR.mono ?_
          rintro e w3 (⟨rfl, hJ3, hk3⟩ | ⟨rfl, hJ3, hk3⟩)
          · have HJ3 := Lib.hid hJ3
            have HS3 : Hid ((∃ T', TeamAt w3 lo b s r T' ∧ FlagsE T T') ∧ HdAt w3 c1 (.pointer (some ⟨b, 0, none⟩)) ∧ HdAt w3 c2 (.int .i64 y)) := Lib.hid (by
              obtain ⟨s1, s2, s3⟩ := HS.out
              exact ⟨hk3.2 s1, s2.kept hk3.1 ⟨(HO.out' c1 (.inl rfl)).1, (HO.out' c1 (.inl rfl)).2⟩, s3.kept hk3.1 ⟨(HO.out' c2 (.inr rfl)).1, (HO.out' c2 (.inr rfl)).2⟩⟩)
            clear hJ3 hk3 hy hR k1 k2
            gi_wp2
            go_roundw
            case rel => exact ⟨k + 1, by omega, by go_num, Lib.hid (by rw [HYES.out]; exact HJ3.out), HS3⟩
            case measure => simp [intOf]; omega
          · have HJ3 := Lib.hid hJ3
            clear hJ3 hk3 hy hR k1 k2
            gi_wp2
            refine bodyPost_ret (results_none rfl _ _ _) rfl ?_
            exact ⟨⟨_, rfl⟩, .inr ⟨_, by rw [← HYES.out]; exact upTo_pre _ _ _ (by omega), HJ3.out⟩⟩
    · obtain rfl : k = N := by omega
      gi_wp2
      go_end0
      exact ⟨⟨_, rfl⟩, .inl HJR.out⟩
theorem foesT_seq (n : Nat) (hn : 1 ≤ n) {w : World} {c1 c2 lo b s r : Nat} {T : TeamL} {y : Int} (h1 : HdAt w c1 (.pointer (some ⟨b, 0, none⟩))) (h2 : HdAt w c2 (.int .i64 y)) (h : TeamAt w lo b s r T) (hoff : c1 ≠ r ∧ c2 ≠ r) :
    SeqW Fence.wide n Tryz.prog 132 #[.pointer (some ⟨c1, 0, none⟩), .pointer (some ⟨c2, 0, none⟩)] encF (fun l => KpF lo b s r T (fun k => k = l)) (fun pre x => pre ++ [x] <+: foesT T y) (fun xs _ => xs = foesT T y) (fun pre _ => pre <+: foesT T y) w := by
  intro l J Jx W hW hl1 hl2 hJ _ hY h0
  have hc1 := h1.lt
  have hc2 := h2.lt
  refine (foesT_in n l c1 c2 lo b s r T y (fun k => k = l) W (h1.later hW) (h2.later hW) (h.later hW) (fun q hq => ⟨fun e => ?_, ?_⟩) J Jx ?_ h0 hn).mono ?_
  · subst e
    rcases hq with h | h <;> omega
  · rcases hq with h | h <;> subst h
    · exact hoff.1
    · exact hoff.2
  · intro pre x W1 hj ht
    obtain ⟨fn, tmps, assign, body, hy, hR⟩ := hY pre x W1 hj ht
    exact ⟨fn, tmps, assign, body, hy, roundIn_wide hR⟩
  · rintro e W' ⟨h1, h2 | h2⟩
    · exact ⟨h1, .inl ⟨_, rfl, h2⟩⟩
    · exact ⟨h1, .inr h2⟩
/-- Each of some teams loses life. -/
def drainL (T : TeamL) (n : Int) (l : List Int) : TeamL := l.foldl (fun T x => gainT T x (-n)) T
theorem drain_snoc (T : TeamL) (n : Int) (l : List Int) (x : Int) : drainL T n (l ++ [x]) = gainT (drainL T n l) x (-n) := by simp [drainL]
theorem drain_flags (T : TeamL) (n : Int) : ∀ l : List Int, FlagsE T (drainL T n l) ∧ (drainL T n l).sides = T.sides := fun l => by
  induction l generalizing T with
  | nil => exact ⟨FlagsE.refl T, rfl⟩
  | cons x l ih =>
    have h := ih (gainT T x (-n))
    exact ⟨(flags_gain T x (-n)).trans h.1, h.2.trans (gain_sides T x (-n))⟩
def drainT (T : TeamL) (seat n : Int) : TeamL := drainL T n (foesT T (ofT T seat))
/-- What drain's range holds. -/
structure DrainI (w0 : World) (lo : Nat) (g : GhostB) (B : BoardL) (n : Int) (q3 q5 : Nat) (pre : List Int) (W : World) : Prop where
  bd : BoardAt W lo g ⟨B.S, drainL B.T n pre, B.D⟩
  tu : TurnedB w0 W g g
  c3 : HdAt W q3 (.pointer (some ⟨g.q, 0, none⟩))
  c5 : HdAt W q5 (.int .i64 n)
theorem drainI_own {w0 : World} {lo q3 q5 N : Nat} {g : GhostB} {B : BoardL} {n : Int} (hN : ∀ k, g.own k → k < N) (h0 : w0.heap.size ≤ N) : OwnFrom N (DrainI w0 lo g B n q3 q5) := fun pre A W row hs hg hr => by
  have hne : ∀ k, k < N → some k ≠ row := fun k hk e => by have := (hr k e.symm).1; omega
  refine ⟨hs.bd.kept hg.size fun k hk => hg.block k (hs.bd.ownLt hk) (hne k (hN k hk)), ⟨hg.os.trans hs.tu.os, hg.tape.trans hs.tu.tape, hg.output.trans hs.tu.output, Nat.le_trans hs.tu.size hg.size, fun k hk he => (hg.block k (Nat.lt_of_lt_of_le hk hs.tu.size) (hne k (by omega))).trans (hs.tu.block k hk he), fun _ _ h => h⟩, hs.c3.grown hg (fun r e => (hr r e).2), hs.c5.grown hg (fun r e => (hr r e).2)⟩
set_option maxRecDepth 100000 in
set_option maxHeartbeats 8000000 in
theorem drain_any {w : World} {lo : Nat} {g : GhostB} {B : BoardL} (h : BoardAt w lo g B) (seat n : Int) (h0 : 0 ≤ n) (h20 : n ≤ 20) :
    Calls Tryz.prog 158 #[.pointer (some ⟨g.q, 0, none⟩), .int .i64 seat, .int .i64 n] w (RetBd w lo g ⟨B.S, drainT B.T seat n, B.D⟩ (.tuple #[])) := by
  have hb1 := below_new w (.cells #[.pointer (some ⟨g.q, 0, none⟩)] 26)
  have hb2 := below_alloc2 hb1 (.cells #[.int .i64 n] 3)
  obtain ⟨W, hW⟩ : ∃ W, (w.alloc (.cells #[.pointer (some ⟨g.q, 0, none⟩)] 26)).alloc (.cells #[.int .i64 n] 3) = W := ⟨_, rfl⟩
  have hq3 : W.heap[w.heap.size]? = some (.cells #[.pointer (some ⟨g.q, 0, none⟩)] 26) := by
    rw [← hW, Below.heap_alloc _ _ _ (by simp)]
    exact heap_alloc_new _ _
  have hq5 : W.heap[w.heap.size + 1]? = some (.cells #[.int .i64 n] 3) := by
    have := heap_alloc_new (w.alloc (.cells #[.pointer (some ⟨g.q, 0, none⟩)] 26)) (.cells #[.int .i64 n] 3)
    rw [World.size_alloc] at this
    rw [← hW]
    exact this
  have hH3 : HdAt W w.heap.size (.pointer (some ⟨g.q, 0, none⟩)) := ⟨_, hq3⟩
  have hH5 : HdAt W (w.heap.size + 1) (.int .i64 n) := ⟨_, hq5⟩
  have hbW : Below w.heap.size w W := by rw [← hW]; exact hb2
  have HSZ := Lib.hid (show W.heap.size = w.heap.size + 2 by rw [← hW]; simp)
  have HBD := Lib.hid (h.later hbW)
  have HQ := Lib.hid h.lt
  have HRL := Lib.hid h.tm.ltr
  have HTU := Lib.hid (TurnedB.of_below (g := g) hbW)
  have HOL := Lib.hid (fun k hk => (h.later hbW).ownLt (k := k) hk)
  have c3 := hH3.cell
  have c5 := hH5.cell
  obtain ⟨_, c1, -⟩ := (h.later hbW).cells
  have HH3 := Lib.hid hH3
  have HH5 := Lib.hid hH5
  have HOF := Lib.hid (fun (w' : World) (hb : Below W.heap.size W w') => tof_any ((h.later hbW).tm.later hb) seat)
  have HI := Lib.hid (show Below W.heap.size W W ∧ W.cell? ⟨w.heap.size, 0, none⟩ = some (.pointer (some ⟨g.q, 0, none⟩)) ∧ W.cell? ⟨g.q, 1, none⟩ = some (.pointer (some ⟨g.tb, 0, none⟩)) from ⟨Below.refl _ _, c3, c1⟩)
  have HWE := Lib.hid hW
  clear h hb1 hb2 hW hq3 hq5 hH3 hH5 hbW c3 c5 c1
  unfold RetBd drainT
  refine (callsIn_wide (n := 9)).1 ?_
  refine callsIn_of_wp_marks Tryz.func158 rfl trivial ?_ rfl
  simp only [Tryz.ntmps158, List.size_toArray, List.length_cons, List.length_nil, Nat.reduceAdd, Nat.reduceSub, Array.replicate_succ, Array.replicate_zero, List.push_toArray, List.append_toArray, List.nil_append, List.cons_append]
  refine wpIn_wide.2 ?_
  go_upto_region 1 with fail
  rw [HWE.out]
  try simp only [World.size_alloc]
  obtain ⟨q3, hq3⟩ : ∃ q, w.heap.size = q := ⟨_, rfl⟩
  rw [hq3] at HSZ HH3 HH5 HI ⊢
  go_region_held3 (fun w' => Below W.heap.size W w' ∧ w'.cell? ⟨q3, 0, none⟩ = some (.pointer (some ⟨g.q, 0, none⟩)) ∧ w'.cell? ⟨g.q, 1, none⟩ = some (.pointer (some ⟨g.tb, 0, none⟩)))
    (first | assumption | (with_reducible exact HI.out) | exact keepB2 ((Below.refl _ _).drew) HI.out | exact keepB2 (by assumption) (by assumption))
    (first
      | (go_at_call 10; refine (HOF.out _ (And.left (by assumption))).mono ?_; rintro e w2 ⟨rfl, rfl⟩)
      | (go_at_call 111; refine (foes_any _ _ _).mono ?_; rintro e w2 ⟨rfl, hd1, hd2, hb2, hs2⟩))
  have hHW : Below W.heap.size W w2 := And.left (by assumption)
  have esz : W.drew.heap.size = W.heap.size := rfl
  rw [esz] at hd1 hd2 hs2
  have HBW := Lib.hid hHW
  rename_i hHeld
  clear hHeld
  obtain ⟨y, hy⟩ : ∃ y, ofT B.T seat = y := ⟨_, rfl⟩
  have hbd2 := HBD.out.later hHW
  have HSEQ := Lib.hid (foesT_seq 8 (by omega) (hd1 : HdAt w2 W.heap.size (.pointer (some ⟨g.tb, 0, none⟩))) ((by rw [hy] at hd2; exact hd2) : HdAt w2 (W.heap.size + 1) (.int .i64 y)) hbd2.tm ⟨by have := HBD.out.tm.ltr; omega, by have := HBD.out.tm.ltr; omega⟩)
  have HI0 : Hid (DrainI w lo g B n q3 (q3 + 1) [] w2) := Lib.hid ⟨hbd2, HTU.out.trans (TurnedB.of_below hHW), HH3.out.later hHW, HH5.out.later hHW⟩
  have HSZ2 := Lib.hid (show q3 + 4 ≤ w2.heap.size by have := HSZ.out; omega)
  have HQ3 := Lib.hid hq3
  rw [hy]
  have HYY := Lib.hid hy
  clear hd1 hd2 hb2 hs2 hHW esz hbd2 hq3 hy HOF HI
  obtain ⟨m1, hm1⟩ : ∃ m, W.heap.size = m := ⟨_, rfl⟩
  obtain ⟨m2, hm2⟩ : ∃ m, W.heap.size + 1 = m := ⟨_, rfl⟩
  rw [hm2] at HSEQ ⊢
  rw [hm1] at HSEQ HOL HSZ ⊢
  clear hm1 hm2
  go_wp2_with fail
  refine (wpIn_wide (n := 9)).1 ?_
  refine range_world3 rfl (by omega) (I := DrainI w lo g B n q3 (q3 + 1)) (Ix := fun _ _ _ => False) (gf := 132) (lb := _) rfl trivial (fun _ _ => by kernel_rfl) HSEQ.out KpF.trans (fun W' o o' ho hc _ => KpF.put o' ho hc) (fun W W' hb => KpF.of_below hb) (Below.refl _ _) (fun _ => rfl)
    (drainI_own (fun k hk => HI0.out.bd.ownLt hk) HI0.out.tu.size) (fun c s A B row hs hg hr => hs) (fun s A B row hs hg hr => hs) (fun s A B row hs hg hr => hs) HI0.out ?round ?done ?stop
  case stop =>
    rintro D c pre W hD hS hI hK
    exact hI.elim
  case round =>
    rintro pre x W1 K hI hT hsz hK
    have HK := Lib.hid hK
    clear hK hT hI
    simp only [encF]
    simp
    gi_wp2
    refine HK.out _ _ (Below.refl _ _) ?_
    clear HK
    intro Wb hsz2 hrest hkw hIb
    have HIB := Lib.hid hIb
    have HKW := Lib.hid hkw
    have k3 := hIb.c3.cell
    have k5 := hIb.c5.cell
    obtain ⟨_, k1, -⟩ := hIb.bd.cells
    have HGA := Lib.hid (tgain_any (hIb.bd.tm.later ((Below.refl Wb.heap.size Wb).drew)) x (-n))
    obtain ⟨ev, hev⟩ : ∃ v : Int, (if inT (drainL B.T n pre) x then (0 : Int) else 2) = v := ⟨_, rfl⟩
    dsimp only at HGA
    rw [hev] at HGA
    clear hsz2 hrest hkw hIb hev
    have h20n : -20 ≤ -n := by omega
    have h0n : -n ≤ 0 := by omega
    have hwr : IntKind.i64.wrap (-n) = -n := IntWalk.i64_in _ (by omega)
    gi_upto_region 3 with fail
    refine wpIn_region_any (by kernel_rfl) ?_
    change wpAnyIn _ _ _ _ _ _ _ _ _ (World.drew _)
    refine anyC.any (c := 7) (S := fun w' => w'.cell? ⟨q3, 0, none⟩ = some (.pointer (some ⟨g.q, 0, none⟩)) ∧ w'.cell? ⟨g.q, 1, none⟩ = some (.pointer (some ⟨g.tb, 0, none⟩)) ∧ w'.cell? ⟨q3 + 1, 0, none⟩ = some (.int .i64 n)) ?_
    refine anyC_take [1, 2, 3, 7] (i := 0) (v := ?_) (by decide) (by decide) (by kernel_rfl) (by kernel_rfl) (by kernel_rfl) (by kernel_rfl) rfl (by kernel_rfl) (by kernel_rfl) (by kernel_rfl) (fun _ _ _ h => h) (by rfl) (fun _ => rfl) ?_ ?_
    rotate_left
    · intro w' hS
      obtain ⟨s3, s1, s5⟩ := hS
      go_simp
      try with_reducible rfl
    refine anyC_take [2, 3, 7] (i := 1) (v := ?_) (by decide) (by decide) (by kernel_rfl) (by kernel_rfl) (by kernel_rfl) (by kernel_rfl) rfl (by kernel_rfl) (by kernel_rfl) (by kernel_rfl) (fun _ _ _ h => h) (by rfl) (fun _ => rfl) ?_ ?_
    rotate_left
    · intro w' hS
      go_simp
      try with_reducible rfl
    refine anyC_take [3, 7] (i := 2) (v := ?_) (by decide) (by decide) (by kernel_rfl) (by kernel_rfl) (by kernel_rfl) (by kernel_rfl) rfl (by kernel_rfl) (by kernel_rfl) (by kernel_rfl) (fun _ _ _ h => h) (by rfl) (fun _ => rfl) ?_ ?_
    rotate_left
    · intro w' hS
      go_simp
      try with_reducible rfl
    refine anyC_take [7] (i := 3) (v := ?_) (by decide) (by decide) (by kernel_rfl) (by kernel_rfl) (by kernel_rfl) (by kernel_rfl) rfl (by kernel_rfl) (by kernel_rfl) (by kernel_rfl) (fun _ _ _ h => h) (by rfl) (fun _ => rfl) ?_ ?_
    rotate_left
    · intro w' hS
      obtain ⟨s3, s1, s5⟩ := hS
      go_simp
      try with_reducible rfl
    refine anyC_take [7] (i := 4) (v := ?_) (by decide) (by decide) (by kernel_rfl) (by kernel_rfl) (by kernel_rfl) (by kernel_rfl) rfl (by kernel_rfl) (by kernel_rfl) (by kernel_rfl) (fun _ _ _ h => h) (by rfl) (fun _ => rfl) ?_ ?_
    rotate_left
    · intro w' hS
      go_simp
      try with_reducible rfl
    refine anyC_take [6, 7] (i := 5) (v := ?_) (by decide) (by decide) (by kernel_rfl) (by kernel_rfl) (by kernel_rfl) (by kernel_rfl) rfl (by kernel_rfl) (by kernel_rfl) (by kernel_rfl) (fun _ _ _ h => h) (by rfl) (fun _ => rfl) ?_ ?_
    rotate_left
    · intro w' hS
      obtain ⟨s3, s1, s5⟩ := hS
      go_simp
      try with_reducible rfl
    refine anyC_take [7] (i := 6) (v := ?_) (by decide) (by decide) (by kernel_rfl) (by kernel_rfl) (by kernel_rfl) (by kernel_rfl) rfl (by kernel_rfl) (by kernel_rfl) (by kernel_rfl) (fun _ _ _ h => h) (by rfl) (fun _ => rfl) ?_ ?_
    rotate_left
    · intro w' hS
      go_simp
      try with_reducible rfl
    refine anyC_one (i := 7) (by kernel_rfl) rfl (fun _ => ⟨cell_stays (Below.refl Wb.heap.size Wb).drew k3, cell_stays (Below.refl Wb.heap.size Wb).drew k1, cell_stays (Below.refl Wb.heap.size Wb).drew k5⟩) (fun K hK => ?_)
    go_simp
    gi_wp2_with ((refine ⟨trivial, ?_⟩; gi_at_call 154; refine CallsIn.mono (F := Fence.wide) (callsIn_wide.2 (HGA.out)) ?_; rintro e w6 ⟨rfl, ht6, hg6⟩; dsimp only))
    have hrq : g.r < q3 := by have := HRL.out; have := HQ3.out; omega
    have hdr := (Below.refl Wb.heap.size Wb).drew
    have hgn := ((flags_gain (drainL B.T n pre) x (-n)))
    have HF : Hid (KpF lo g.tb g.s g.r B.T (fun k => k = w2.heap.size + 1) Wb w6) := Lib.hid ((KpF.of_below hdr).trans (KpF.of_gain hg6 ht6 ((drain_flags B.T n pre).1.trans hgn)))
    have HP : Hid (KeepsFrom w2.heap.size Wb w6) := Lib.hid ⟨hg6.size, fun k o hB ho _ => (hg6.block k (Array.getElem?_eq_some_iff.1 ho).1 (by simpa using (show k ≠ g.r by have := HSZ2.out; omega))).trans ho⟩
    have hbt := (HIB.out.bd.later hdr).withT ht6 hg6 (congrArg List.length (gain_sides _ _ _))
    have HN : Hid (DrainI w lo g B n q3 (q3 + 1) (pre ++ [x]) w6) := Lib.hid (by
      refine ⟨by rw [drain_snoc]; exact hbt.1, HIB.out.tu.trans ((TurnedB.of_below hdr).trans hbt.2), ?_, ?_⟩
      · obtain ⟨t3, h3⟩ := HIB.out.c3
        exact ⟨t3, (hg6.block q3 (Array.getElem?_eq_some_iff.1 h3).1 (by simpa using (show q3 ≠ g.r by omega))).trans h3⟩
      · obtain ⟨t3, h3⟩ := HIB.out.c5
        exact ⟨t3, (hg6.block (q3 + 1) (Array.getElem?_eq_some_iff.1 h3).1 (by simpa using (show q3 + 1 ≠ g.r by omega))).trans h3⟩)
    clear ht6 hg6 hrq hdr hgn hbt k3 k5 k1
    refine anyC_done (by kernel_rfl) (fun h => absurd ((show Array.getD _ 7 true = true by kernel_rfl).symm.trans h) (by decide)) ?_ _
    gi_wp2
    exact ⟨HP.out, HKW.out.trans HF.out, HN.out⟩
  case done =>
    rintro D ys W2 hD hS hI hK
    subst hS
    have HI2 := Lib.hid hI
    have HK2 := Lib.hid hK
    have HDD := Lib.hid hD
    clear hD hI hK
    go_wp2
    refine leaves_marksO (B := w2.heap.size) [D] _ (by simp) (fun D' hD' => by obtain rfl := List.mem_singleton.1 hD'; exact HDD.out) (fun D' hD' => by obtain rfl := List.mem_singleton.1 hD'; exact HK2.out) (fun W3 hb hc => ?_)
    refine ⟨_, results_none rfl _ _ _, rfl, g, ?_, ?_, rfl⟩
    · refine BoardAt.kept ?_ hb.size (fun k hk => hb.block k (HI0.out.bd.ownLt hk))
      rw [HYY.out]
      exact HI2.out.bd
    · have h1 := HI2.out.tu
      exact ⟨hb.os.trans h1.os, hb.tape.trans h1.tape, hb.output.trans h1.output, Nat.le_trans h1.size hb.size, fun k hk he => (hb.block k (Nat.lt_of_lt_of_le hk HI0.out.tu.size)).trans (h1.block k hk he), fun _ _ e => e⟩
end Go.Proofs.YtookicopjphmnaaGreat
namespace Go.Proofs.YtookicopjphmnaaGreat
open Go.RowKit Go.Maps
attribute [local go_sem] Oper.semAt_some

theorem RetBd.of {w w1 : World} {lo : Nat} {g g1 : GhostB} {B : BoardL} {v : Value} {e : Ending} {w' : World} (h : RetBd w1 lo g1 B v e w') (ht : TurnedB w w1 g g1) (hq : g1.q = g.q) : RetBd w lo g B v e w' := by
  obtain ⟨rfl, g', h1, h2, h3⟩ := h
  exact ⟨rfl, g', h1, ht.trans h2, h3.trans hq⟩
theorem RetBd.same {w : World} {lo : Nat} {g : GhostB} {B : BoardL} {v : Value} {e : Ending} {w' : World} (hb : BoardAt w lo g B) (h : RetV w v e w') : RetBd w lo g B v e w' := ⟨h.1, g, hb.later h.2, TurnedB.of_below h.2, rfl⟩
/-- A change of the store, by the store's own contract. -/
theorem BoardAt.retS {w : World} {lo : Nat} {g : GhostB} {B : BoardL} {S' : StoreL} {v : Value} {e : Ending} {w' : World} (h : BoardAt w lo g B) (hw : WfS S') (hl : S'.objs.length = B.S.objs.length) (hn : S'.seats = B.S.seats) (hr : RetS w lo g.b g.G S' v e w') : RetBd w lo g ⟨S', B.T, B.D⟩ v e w' := by
  obtain ⟨rfl, G', h1, h2⟩ := hr
  obtain ⟨b1, t1⟩ := h.withS h1 h2 hw (by rw [hl]; exact h.len) hn
  exact ⟨rfl, _, b1, t1, rfl⟩
theorem BoardAt.retT {w : World} {lo : Nat} {g : GhostB} {B : BoardL} {T' : TeamL} {v : Value} {e : Ending} {w' : World} (h : BoardAt w lo g B) (hn : T'.sides = B.T.sides) (hr : RetT w lo g.tb g.s g.r v T' e w') : RetBd w lo g ⟨B.S, T', B.D⟩ v e w' := by
  obtain ⟨rfl, h1, h2⟩ := hr
  obtain ⟨b1, t1⟩ := h.withT h1 h2 (congrArg List.length hn)
  exact ⟨rfl, _, b1, t1, rfl⟩
theorem gain_bd {w : World} {lo : Nat} {g : GhostB} {B : BoardL} (h : BoardAt w lo g B) (k m : Int) : ∃ v, Calls Tryz.prog 154 #[.pointer (some ⟨g.tb, 0, none⟩), .int .i64 k, .int .i64 m] w (RetBd w lo g ⟨B.S, gainT B.T k m, B.D⟩ (.int .i64 v)) :=
  ⟨_, (tgain_any h.tm k m).mono fun _ _ hr => h.retT (gain_sides _ _ _) hr⟩
theorem hurtS_seats (S : StoreL) (i n : Int) : (hurtS S i n).seats = S.seats := by unfold hurtS; split <;> rfl
theorem countS_seats (S : StoreL) (i n : Int) : (countS S i n).seats = S.seats := by unfold countS; split <;> rfl
theorem boostS_seats (S : StoreL) (i n : Int) : (boostS S i n).seats = S.seats := by unfold boostS; split <;> rfl
theorem hurt_bd {w : World} {lo : Nat} {g : GhostB} {B : BoardL} (h : BoardAt w lo g B) (i n : Int) : ∃ v, Calls Tryz.prog 165 #[.pointer (some ⟨g.b, 0, none⟩), .int .i64 i, .int .i64 n] w (RetBd w lo g ⟨hurtS B.S i n, B.T, B.D⟩ (.int .i64 v)) :=
  ⟨_, (hurt_any h.st h.wf (by have := h.len; omega) i n).mono fun _ _ hr => h.retS (hurtS_wf h.wf i n) (hurtS_len _ _ _) (hurtS_seats _ _ _) hr⟩
theorem count_bd {w : World} {lo : Nat} {g : GhostB} {B : BoardL} (h : BoardAt w lo g B) (i n : Int) : ∃ v, Calls Tryz.prog 157 #[.pointer (some ⟨g.b, 0, none⟩), .int .i64 i, .int .i64 n] w (RetBd w lo g ⟨countS B.S i n, B.T, B.D⟩ (.int .i64 v)) :=
  ⟨_, (count_any h.st h.wf (by have := h.len; omega) i n).mono fun _ _ hr => h.retS (countS_wf h.wf i n) (countS_len _ _ _) (countS_seats _ _ _) hr⟩
theorem boost_bd {w : World} {lo : Nat} {g : GhostB} {B : BoardL} (h : BoardAt w lo g B) (i n : Int) : ∃ v, Calls Tryz.prog 156 #[.pointer (some ⟨g.b, 0, none⟩), .int .i64 i, .int .i64 n] w (RetBd w lo g ⟨boostS B.S i n, B.T, B.D⟩ (.int .i64 v)) :=
  ⟨_, (boost_any h.st h.wf (by have := h.len; omega) i n).mono fun _ _ hr => h.retS (boostS_wf h.wf i n) (boostS_len _ _ _) (boostS_seats _ _ _) hr⟩
/-- An object that there is goes somewhere. -/
theorem move_bd {w : World} {lo : Nat} {g : GhostB} {B : BoardL} (h : BoardAt w lo g B) (i : Int) (hi : hasS B.S i) (z : Nat) (h1 : 1 ≤ z) (h7 : z ≤ 7) : Calls Tryz.prog 26 #[.pointer (some ⟨g.b, 0, none⟩), .int .i64 i, .int .i64 z, .bool false] w (RetBd w lo g ⟨moveI B.S i z, B.T, B.D⟩ (.int .i64 0)) := by
  obtain ⟨j, rfl⟩ : ∃ j : Nat, i = (j : Int) + 1 := ⟨(i - 1).toNat, by have := hi.1; omega⟩
  have hj : j < B.S.objs.length := by have := hi.2; omega
  rw [moveI_at hj]
  refine (move_ok h.st h.wf h.len j z hj h1 h7 false).mono fun _ _ hr => h.retS (h.wf.move hj h1 h7 false) (by simp [moveL]) rfl hr
def tapI (S : StoreL) (i : Int) : StoreL := setL S (i - 1).toNat (tapO (objOf S i))
theorem tapI_at {S : StoreL} {j : Nat} (hj : j < S.objs.length) : tapI S ((j : Int) + 1) = setL S j (tapO S.objs[j]) := by
  unfold tapI
  rw [objOf_at hj, show ((j : Int) + 1 - 1).toNat = j by omega]
theorem tapI_wf {S : StoreL} (h : WfS S) {j : Nat} (hj : j < S.objs.length) : WfS (tapI S ((j : Int) + 1)) := by
  rw [tapI_at hj]
  exact h.set hj (h.ids j hj).1 rfl rfl rfl
theorem tapO_self {o : ObjL} (h : o.tapped = true) : tapO o = o := by
  obtain ⟨x0, x1, x2, x3, x4, x5, x6, x7, x8, x9, x10⟩ := o
  cases h
  rfl
/-- A Creature is tapped. -/
theorem taps_bd {w : World} {lo : Nat} {g : GhostB} {B : BoardL} (h : BoardAt w lo g B) (i : Int) (hi : creE B.S i = 0) : ∃ v, Calls Tryz.prog 159 #[.pointer (some ⟨g.b, 0, none⟩), .int .i64 i] w (RetBd w lo g ⟨tapI B.S i, B.T, B.D⟩ (.int .i64 v)) := by
  obtain ⟨j, hj, rfl, _, hlv⟩ := creE_live hi
  have hz : B.S.objs[j].zone = 3 := by
    unfold liveO at hlv
    simp only [Bool.and_eq_true, beq_iff_eq] at hlv
    exact hlv.1
  have hl := h.len
  cases ht : B.S.objs[j].tapped with
  | false => exact ⟨_, (taps_ok h.st h.wf (by omega) j hj hz ht).mono fun _ _ hr => h.retS (tapI_wf h.wf hj) (by rw [tapI_at hj]; simp [setL]) rfl (by rw [tapI_at hj]; exact hr)⟩
  | true =>
    have e : tapI B.S ((j : Int) + 1) = B.S := by
      rw [tapI_at hj]
      have e2 : tapO B.S.objs[j] = B.S.objs[j] := tapO_self ht
      rw [e2]
      unfold setL
      rw [List.set_getElem_self]
    rw [e]
    exact ⟨_, ((taps_not h.st (by omega) j hj).2 hz ht).mono fun _ _ hr => RetBd.same h hr⟩
/-- What a term makes of a board. -/
def hurtB (B : BoardL) (on n i : Int) : BoardL := if on = 4 then ⟨B.S, gainT B.T i (-n), B.D⟩ else ⟨hurtS B.S i n, B.T, B.D⟩
def workB (B : BoardL) (seat : Int) (t : Crd.TermL) (i : Int) : BoardL :=
  if t.op = 1 then hurtB B t.on t.n i else if t.op = 2 then ⟨B.S, gainT B.T (ofT B.T seat) t.n, B.D⟩ else if t.op = 3 then drawB B seat.toNat t.n
  else if t.op = 4 then ⟨boostS B.S i t.n, B.T, B.D⟩ else if t.op = 5 then ⟨countS B.S i t.n, B.T, B.D⟩ else if t.op = 6 then ⟨moveI B.S i 5, B.T, B.D⟩ else if t.op = 7 then ⟨moveI B.S i 2, B.T, B.D⟩
  else if t.op = 8 then ⟨B.S, drainT B.T seat t.n, B.D⟩ else if t.op = 9 then ⟨tapI B.S i, B.T, B.D⟩ else B
set_option maxRecDepth 100000 in
set_option maxHeartbeats 4000000 in
theorem hurtB_any {w : World} {lo : Nat} {g : GhostB} {B : BoardL} (h : BoardAt w lo g B) (on n i : Int) (h0 : 0 ≤ n) (h20 : n ≤ 20) :
    Calls Tryz.prog 153 #[.pointer (some ⟨g.q, 0, none⟩), .int .i64 on, .int .i64 n, .int .i64 i] w (RetBd w lo g (hurtB B on n i) (.tuple #[])) := by
  obtain ⟨c0, c1, -⟩ := h.cells
  have hwr : IntKind.i64.wrap (-n) = -n := IntWalk.i64_in _ (by omega)
  unfold hurtB
  by_cases h4 : on = 4
  · subst h4
    rw [if_pos rfl]
    obtain ⟨v, hg⟩ := gain_bd h i (-n)
    have HG := Lib.hid hg
    clear hg h c0
    go_enter Tryz.func153, Tryz.ntmps153
    go_wp2_with fail
    refine HG.out.mono ?_
    rintro e w1 ⟨rfl, g1, hr⟩
    have HR := Lib.hid hr
    clear hr
    go_wp2
    go_end0
    exact ⟨rfl, g1, HR.out⟩
  · rw [if_neg h4]
    have e4 : (on == 4) = false := beq_eq_false_iff_ne.2 h4
    obtain ⟨v, hg⟩ := hurt_bd h i n
    have HG := Lib.hid hg
    clear hg h c1 h4
    go_enter Tryz.func153, Tryz.ntmps153
    go_wp2_with fail
    refine HG.out.mono ?_
    rintro e w1 ⟨rfl, g1, hr⟩
    have HR := Lib.hid hr
    clear hr
    go_wp2
    go_end0
    exact ⟨rfl, g1, HR.out⟩
theorem term_parts {t : Crd.TermL} (h : Crd.termB t = true) : 0 ≤ t.n ∧ t.n ≤ 20 ∧ ((t.op = 1 ∧ (t.on = 1 ∨ t.on = 2 ∨ t.on = 4)) ∨ ((t.op = 2 ∨ t.op = 3 ∨ t.op = 8) ∧ t.on = 0) ∨ ((t.op = 4 ∨ t.op = 5) ∧ (t.on = 1 ∨ t.on = 3)) ∨ ((t.op = 6 ∨ t.op = 7 ∨ t.op = 9) ∧ t.n = 0 ∧ (t.on = 1 ∨ t.on = 2))) := by
  unfold Crd.termB at h
  simp only [Bool.and_eq_true, decide_eq_true_eq] at h
  obtain ⟨h0, h1, h2⟩ := h
  unfold Crd.mostI at h1
  unfold Crd.aimsI at h2
  by_cases e1 : t.op = 1
  · rw [if_pos e1] at h2
    simp at h2
    rw [if_neg (by omega)] at h1
    exact ⟨h0, h1, .inl ⟨e1, h2⟩⟩
  · rw [if_neg e1] at h2
    by_cases e2 : t.op = 2 ∨ t.op = 3 ∨ t.op = 8
    · rw [if_pos e2] at h2
      simp at h2
      rw [if_neg (by omega)] at h1
      exact ⟨h0, h1, .inr (.inl ⟨e2, h2⟩)⟩
    · rw [if_neg e2] at h2
      by_cases e3 : t.op = 4 ∨ t.op = 5
      · rw [if_pos e3] at h2
        simp at h2
        rw [if_neg (by omega)] at h1
        exact ⟨h0, h1, .inr (.inr (.inl ⟨e3, h2⟩))⟩
      · rw [if_neg e3] at h2
        by_cases e4 : t.op = 6 ∨ t.op = 7 ∨ t.op = 9
        · rw [if_pos e4] at h2
          simp at h2
          rw [if_pos e4] at h1
          exact ⟨h0, by omega, .inr (.inr (.inr ⟨e4, by omega, h2⟩))⟩
        · rw [if_neg e4] at h2
          simp at h2
theorem creE_has {S : StoreL} {i : Int} (h : creE S i = 0) : hasS S i := by
  unfold creE at h
  split at h
  · assumption
  · cases h
set_option maxRecDepth 100000 in
set_option maxHeartbeats 4000000 in
theorem work_1 {w : World} {lo : Nat} {g : GhostB} {B : BoardL} (h : BoardAt w lo g B) (seat n on i : Int)  (h0 : 0 ≤ n) (h20 : n ≤ 20) :
    Calls Tryz.prog 141 #[.pointer (some ⟨g.q, 0, none⟩), .int .i64 seat, .agg #[.int .i64 1, .int .i64 n, .int .i64 on], .int .i64 i] w (RetBd w lo g (hurtB B on n i) (.tuple #[])) := by
  have hb0 := below_new w (.cells #[.int .i64 1, .int .i64 n, .int .i64 on] 58)
  have h' := h.later hb0
  have HTU := Lib.hid (TurnedB.of_below (g := g) hb0)
  obtain ⟨c0, c1, -⟩ := h'.cells
  have HC := Lib.hid (hurtB_any h' on n i h0 h20)
  clear h h' hb0
  go_enter Tryz.func141, Tryz.ntmps141
  go_wp2_with fail
  refine HC.out.mono ?_
  rintro e w1 hr
  obtain ⟨rfl, hr2⟩ := RetBd.of hr HTU.out rfl
  have HR := Lib.hid hr2
  clear hr hr2
  try dsimp only
  go_wp2
  go_end0
  exact ⟨rfl, HR.out⟩
set_option maxRecDepth 100000 in
set_option maxHeartbeats 4000000 in
theorem work_2 {w : World} {lo : Nat} {g : GhostB} {B : BoardL} (h : BoardAt w lo g B) (seat n on i : Int)  :
    Calls Tryz.prog 141 #[.pointer (some ⟨g.q, 0, none⟩), .int .i64 seat, .agg #[.int .i64 2, .int .i64 n, .int .i64 on], .int .i64 i] w (RetBd w lo g (⟨B.S, gainT B.T (ofT B.T seat) n, B.D⟩) (.tuple #[])) := by
  have hb0 := below_new w (.cells #[.int .i64 2, .int .i64 n, .int .i64 on] 58)
  have h' := h.later hb0
  have HTU := Lib.hid (TurnedB.of_below (g := g) hb0)
  obtain ⟨c0, c1, -⟩ := h'.cells
  have k1 : (w.alloc (.cells #[.int .i64 2, .int .i64 n, .int .i64 on] 58)).cell? ⟨w.heap.size, 1, none⟩ = some (.int .i64 n) := by simp [go_sem]
  obtain ⟨W, hW⟩ : ∃ W, w.alloc (.cells #[.int .i64 2, .int .i64 n, .int .i64 on] 58) = W := ⟨_, rfl⟩
  rw [hW] at c0 c1 k1 h' HTU
  have HW := Lib.hid hW
  clear hW
  have hb1 := (Below.refl W.heap.size W).drew
  have HOF := Lib.hid (tof_any (h'.tm.later hb1) seat)
  obtain ⟨v, hg⟩ := gain_bd (h'.later hb1) (ofT B.T seat) n
  have HC := Lib.hid hg
  have HTU := Lib.hid (HTU.out.trans (TurnedB.of_below hb1))
  clear hg hb1
  clear h h' hb0
  go_enter Tryz.func141, Tryz.ntmps141
  go_upto_region 5 with fail
  rw [HW.out]
  refine wp_region_noPanic ?_
  refine (wpIn_wide (n := 9)).1 ?_
  refine wpIn_region_any (by kernel_rfl) ?_
  change wpAnyIn _ _ _ _ _ _ _ _ _ (World.drew _)
  refine anyC.any (c := 12) (S := fun w' => w'.cell? ⟨g.q, 1, none⟩ = some (.pointer (some ⟨g.tb, 0, none⟩)) ∧ w'.cell? ⟨w.heap.size, 1, none⟩ = some (.int .i64 n)) ?_
  refine anyC_take [1, 2, 3, 12] (i := 0) (v := ?_) (by decide) (by decide) (by kernel_rfl) (by kernel_rfl) (by kernel_rfl) (by kernel_rfl) rfl (by kernel_rfl) (by kernel_rfl) (by kernel_rfl) (fun _ _ _ h => h) (by rfl) (fun _ => rfl) ?_ ?_
  rotate_left
  · intro w' hS
    go_simp
    try with_reducible rfl
  refine anyC_take [2, 3, 12] (i := 1) (v := ?_) (by decide) (by decide) (by kernel_rfl) (by kernel_rfl) (by kernel_rfl) (by kernel_rfl) rfl (by kernel_rfl) (by kernel_rfl) (by kernel_rfl) (fun _ _ _ h => h) (by rfl) (fun _ => rfl) ?_ ?_
  rotate_left
  · intro w' hS
    go_simp
    try with_reducible rfl
  refine anyC_take [3, 12] (i := 2) (v := ?_) (by decide) (by decide) (by kernel_rfl) (by kernel_rfl) (by kernel_rfl) (by kernel_rfl) rfl (by kernel_rfl) (by kernel_rfl) (by kernel_rfl) (fun _ _ _ h => h) (by rfl) (fun _ => rfl) ?_ ?_
  rotate_left
  · intro w' hS
    go_simp
    try with_reducible rfl
  refine anyC_take [12] (i := 3) (v := ?_) (by decide) (by decide) (by kernel_rfl) (by kernel_rfl) (by kernel_rfl) (by kernel_rfl) rfl (by kernel_rfl) (by kernel_rfl) (by kernel_rfl) (fun _ _ _ h => h) (by rfl) (fun _ => rfl) ?_ ?_
  rotate_left
  · intro w' hS
    obtain ⟨s1, s5⟩ := hS
    go_simp
    try with_reducible rfl
  refine anyC_take [5, 6, 7, 9, 12] (i := 4) (v := ?_) (by decide) (by decide) (by kernel_rfl) (by kernel_rfl) (by kernel_rfl) (by kernel_rfl) rfl (by kernel_rfl) (by kernel_rfl) (by kernel_rfl) (fun _ _ _ h => h) (by rfl) (fun _ => rfl) ?_ ?_
  rotate_left
  · intro w' hS
    go_simp
    try with_reducible rfl
  refine anyC_take [6, 7, 9, 12] (i := 5) (v := ?_) (by decide) (by decide) (by kernel_rfl) (by kernel_rfl) (by kernel_rfl) (by kernel_rfl) rfl (by kernel_rfl) (by kernel_rfl) (by kernel_rfl) (fun _ _ _ h => h) (by rfl) (fun _ => rfl) ?_ ?_
  rotate_left
  · intro w' hS
    go_simp
    try with_reducible rfl
  refine anyC_take [7, 9, 12] (i := 6) (v := ?_) (by decide) (by decide) (by kernel_rfl) (by kernel_rfl) (by kernel_rfl) (by kernel_rfl) rfl (by kernel_rfl) (by kernel_rfl) (by kernel_rfl) (fun _ _ _ h => h) (by rfl) (fun _ => rfl) ?_ ?_
  rotate_left
  · intro w' hS
    go_simp
    try with_reducible rfl
  refine anyC_take [9, 12] (i := 7) (v := ?_) (by decide) (by decide) (by kernel_rfl) (by kernel_rfl) (by kernel_rfl) (by kernel_rfl) rfl (by kernel_rfl) (by kernel_rfl) (by kernel_rfl) (fun _ _ _ h => h) (by rfl) (fun _ => rfl) ?_ ?_
  rotate_left
  · intro w' hS
    obtain ⟨s1, s5⟩ := hS
    go_simp
    try with_reducible rfl
  refine anyC_take [9, 12] (i := 8) (v := ?_) (by decide) (by decide) (by kernel_rfl) (by kernel_rfl) (by kernel_rfl) (by kernel_rfl) rfl (by kernel_rfl) (by kernel_rfl) (by kernel_rfl) (fun _ _ _ h => h) (by rfl) (fun _ => rfl) ?_ ?_
  rotate_left
  · intro w' hS
    go_simp
    try with_reducible rfl
  refine anyC_take [11, 12] (i := 10) (v := ?_) (by decide) (by decide) (by kernel_rfl) (by kernel_rfl) (by kernel_rfl) (by kernel_rfl) rfl (by kernel_rfl) (by kernel_rfl) (by kernel_rfl) (fun _ _ _ h => h) (by rfl) (fun _ => rfl) ?_ ?_
  rotate_left
  · intro w' hS
    go_simp
    try with_reducible rfl
  refine anyC_take [12] (i := 11) (v := ?_) (by decide) (by decide) (by kernel_rfl) (by kernel_rfl) (by kernel_rfl) (by kernel_rfl) rfl (by kernel_rfl) (by kernel_rfl) (by kernel_rfl) (fun _ _ _ h => h) (by rfl) (fun _ => rfl) ?_ ?_
  rotate_left
  · intro w' hS
    obtain ⟨s1, s5⟩ := hS
    go_simp
    try with_reducible rfl
  refine anyC_one (i := 9) (by kernel_rfl) rfl (fun _ => ⟨cell_stays (Below.refl W.heap.size W).drew c1, cell_stays (Below.refl W.heap.size W).drew k1⟩) (fun K hK => ?_)
  go_simp
  gi_wp2_with ((refine ⟨trivial, ?_⟩; gi_at_call 10; refine CallsIn.mono (F := Fence.wide) (callsIn_wide.2 (HOF.out)) ?_; rintro e w0 ⟨rfl, rfl⟩; dsimp only))
  refine anyC_one (i := 12) (by kernel_rfl) rfl (fun _ => ⟨cell_stays (Below.refl W.heap.size W).drew c1, cell_stays (Below.refl W.heap.size W).drew k1⟩) (fun K hK => ?_)
  go_simp
  gi_wp2_with ((refine ⟨trivial, ?_⟩; gi_at_call 154; refine CallsIn.mono (F := Fence.wide) (callsIn_wide.2 (HC.out)) ?_; rintro e w1 hr; obtain ⟨rfl, hr2⟩ := RetBd.of hr HTU.out rfl; have HR := Lib.hid hr2; clear hr hr2; dsimp only))
  refine anyC_done (by kernel_rfl) (fun h => absurd ((show Array.getD _ 12 true = true by kernel_rfl).symm.trans h) (by decide)) ?_ _
  refine NoPanic.normal ?_
  go_wp2
  go_end0
  exact ⟨rfl, HR.out⟩
set_option maxRecDepth 100000 in
set_option maxHeartbeats 4000000 in
theorem work_3 {w : World} {lo : Nat} {g : GhostB} {B : BoardL} (h : BoardAt w lo g B) (seat n on i : Int)  (hs : hasT B seat = true) :
    Calls Tryz.prog 141 #[.pointer (some ⟨g.q, 0, none⟩), .int .i64 seat, .agg #[.int .i64 3, .int .i64 n, .int .i64 on], .int .i64 i] w (RetBd w lo g (drawB B seat.toNat n) (.tuple #[])) := by
  have hb0 := below_new w (.cells #[.int .i64 3, .int .i64 n, .int .i64 on] 58)
  have h' := h.later hb0
  have HTU := Lib.hid (TurnedB.of_below (g := g) hb0)
  obtain ⟨c0, c1, -⟩ := h'.cells
  obtain ⟨k, rfl⟩ : ∃ k : Nat, seat = k := ⟨seat.toNat, by have := (of_decide_eq_true hs).1; omega⟩
  have hk : k < B.S.seats := by have := (of_decide_eq_true hs).2; omega
  have HC := Lib.hid (draw_any h' k hk n)
  rw [Int.toNat_natCast]
  clear hs
  clear h h' hb0
  go_enter Tryz.func141, Tryz.ntmps141
  go_wp2_with fail
  refine HC.out.mono ?_
  rintro e w1 hr
  obtain ⟨rfl, hr2⟩ := RetBd.of hr HTU.out rfl
  have HR := Lib.hid hr2
  clear hr hr2
  try dsimp only
  go_wp2
  go_end0
  exact ⟨rfl, HR.out⟩
set_option maxRecDepth 100000 in
set_option maxHeartbeats 4000000 in
theorem work_4 {w : World} {lo : Nat} {g : GhostB} {B : BoardL} (h : BoardAt w lo g B) (seat n on i : Int)  :
    Calls Tryz.prog 141 #[.pointer (some ⟨g.q, 0, none⟩), .int .i64 seat, .agg #[.int .i64 4, .int .i64 n, .int .i64 on], .int .i64 i] w (RetBd w lo g (⟨boostS B.S i n, B.T, B.D⟩) (.tuple #[])) := by
  have hb0 := below_new w (.cells #[.int .i64 4, .int .i64 n, .int .i64 on] 58)
  have h' := h.later hb0
  have HTU := Lib.hid (TurnedB.of_below (g := g) hb0)
  obtain ⟨c0, c1, -⟩ := h'.cells
  have k1 : (w.alloc (.cells #[.int .i64 4, .int .i64 n, .int .i64 on] 58)).cell? ⟨w.heap.size, 1, none⟩ = some (.int .i64 n) := by simp [go_sem]
  obtain ⟨W, hW⟩ : ∃ W, w.alloc (.cells #[.int .i64 4, .int .i64 n, .int .i64 on] 58) = W := ⟨_, rfl⟩
  rw [hW] at c0 c1 k1 h' HTU
  have HW := Lib.hid hW
  clear hW
  have hb1 := (Below.refl W.heap.size W).drew
  obtain ⟨v, hg⟩ := boost_bd (h'.later hb1) i n
  have HC := Lib.hid hg
  have HTU := Lib.hid (HTU.out.trans (TurnedB.of_below hb1))
  clear hg hb1
  clear h h' hb0
  go_enter Tryz.func141, Tryz.ntmps141
  go_upto_region 9 with fail
  rw [HW.out]
  go_still_tail 7, (by kernel_rfl)
  change wpList _ _ _ _ _ (World.drew _)
  go_wp2_with fail
  refine HC.out.mono ?_
  rintro e w1 hr
  obtain ⟨rfl, hr2⟩ := RetBd.of hr HTU.out rfl
  have HR := Lib.hid hr2
  clear hr hr2
  try dsimp only
  go_wp2
  go_end0
  exact ⟨rfl, HR.out⟩
set_option maxRecDepth 100000 in
set_option maxHeartbeats 4000000 in
theorem work_5 {w : World} {lo : Nat} {g : GhostB} {B : BoardL} (h : BoardAt w lo g B) (seat n on i : Int)  :
    Calls Tryz.prog 141 #[.pointer (some ⟨g.q, 0, none⟩), .int .i64 seat, .agg #[.int .i64 5, .int .i64 n, .int .i64 on], .int .i64 i] w (RetBd w lo g (⟨countS B.S i n, B.T, B.D⟩) (.tuple #[])) := by
  have hb0 := below_new w (.cells #[.int .i64 5, .int .i64 n, .int .i64 on] 58)
  have h' := h.later hb0
  have HTU := Lib.hid (TurnedB.of_below (g := g) hb0)
  obtain ⟨c0, c1, -⟩ := h'.cells
  have k1 : (w.alloc (.cells #[.int .i64 5, .int .i64 n, .int .i64 on] 58)).cell? ⟨w.heap.size, 1, none⟩ = some (.int .i64 n) := by simp [go_sem]
  obtain ⟨W, hW⟩ : ∃ W, w.alloc (.cells #[.int .i64 5, .int .i64 n, .int .i64 on] 58) = W := ⟨_, rfl⟩
  rw [hW] at c0 c1 k1 h' HTU
  have HW := Lib.hid hW
  clear hW
  have hb1 := (Below.refl W.heap.size W).drew
  obtain ⟨v, hg⟩ := count_bd (h'.later hb1) i n
  have HC := Lib.hid hg
  have HTU := Lib.hid (HTU.out.trans (TurnedB.of_below hb1))
  clear hg hb1
  clear h h' hb0
  go_enter Tryz.func141, Tryz.ntmps141
  go_upto_region 11 with fail
  rw [HW.out]
  go_still_tail 7, (by kernel_rfl)
  change wpList _ _ _ _ _ (World.drew _)
  go_wp2_with fail
  refine HC.out.mono ?_
  rintro e w1 hr
  obtain ⟨rfl, hr2⟩ := RetBd.of hr HTU.out rfl
  have HR := Lib.hid hr2
  clear hr hr2
  try dsimp only
  go_wp2
  go_end0
  exact ⟨rfl, HR.out⟩
set_option maxRecDepth 100000 in
set_option maxHeartbeats 4000000 in
theorem work_6 {w : World} {lo : Nat} {g : GhostB} {B : BoardL} (h : BoardAt w lo g B) (seat n on i : Int)  (hc : creE B.S i = 0) :
    Calls Tryz.prog 141 #[.pointer (some ⟨g.q, 0, none⟩), .int .i64 seat, .agg #[.int .i64 6, .int .i64 n, .int .i64 on], .int .i64 i] w (RetBd w lo g (⟨moveI B.S i 5, B.T, B.D⟩) (.tuple #[])) := by
  have hb0 := below_new w (.cells #[.int .i64 6, .int .i64 n, .int .i64 on] 58)
  have h' := h.later hb0
  have HTU := Lib.hid (TurnedB.of_below (g := g) hb0)
  obtain ⟨c0, c1, -⟩ := h'.cells
  have HC := Lib.hid (move_bd h' i (creE_has hc) 5 (by omega) (by omega))
  clear h h' hb0
  go_enter Tryz.func141, Tryz.ntmps141
  go_wp2_with fail
  refine HC.out.mono ?_
  rintro e w1 hr
  obtain ⟨rfl, hr2⟩ := RetBd.of hr HTU.out rfl
  have HR := Lib.hid hr2
  clear hr hr2
  try dsimp only
  go_wp2
  go_end0
  exact ⟨rfl, HR.out⟩
set_option maxRecDepth 100000 in
set_option maxHeartbeats 4000000 in
theorem work_7 {w : World} {lo : Nat} {g : GhostB} {B : BoardL} (h : BoardAt w lo g B) (seat n on i : Int)  (hc : creE B.S i = 0) :
    Calls Tryz.prog 141 #[.pointer (some ⟨g.q, 0, none⟩), .int .i64 seat, .agg #[.int .i64 7, .int .i64 n, .int .i64 on], .int .i64 i] w (RetBd w lo g (⟨moveI B.S i 2, B.T, B.D⟩) (.tuple #[])) := by
  have hb0 := below_new w (.cells #[.int .i64 7, .int .i64 n, .int .i64 on] 58)
  have h' := h.later hb0
  have HTU := Lib.hid (TurnedB.of_below (g := g) hb0)
  obtain ⟨c0, c1, -⟩ := h'.cells
  have HC := Lib.hid (move_bd h' i (creE_has hc) 2 (by omega) (by omega))
  clear h h' hb0
  go_enter Tryz.func141, Tryz.ntmps141
  go_wp2_with fail
  refine HC.out.mono ?_
  rintro e w1 hr
  obtain ⟨rfl, hr2⟩ := RetBd.of hr HTU.out rfl
  have HR := Lib.hid hr2
  clear hr hr2
  try dsimp only
  go_wp2
  go_end0
  exact ⟨rfl, HR.out⟩
set_option maxRecDepth 100000 in
set_option maxHeartbeats 4000000 in
theorem work_8 {w : World} {lo : Nat} {g : GhostB} {B : BoardL} (h : BoardAt w lo g B) (seat n on i : Int)  (h0 : 0 ≤ n) (h20 : n ≤ 20) :
    Calls Tryz.prog 141 #[.pointer (some ⟨g.q, 0, none⟩), .int .i64 seat, .agg #[.int .i64 8, .int .i64 n, .int .i64 on], .int .i64 i] w (RetBd w lo g (⟨B.S, drainT B.T seat n, B.D⟩) (.tuple #[])) := by
  have hb0 := below_new w (.cells #[.int .i64 8, .int .i64 n, .int .i64 on] 58)
  have h' := h.later hb0
  have HTU := Lib.hid (TurnedB.of_below (g := g) hb0)
  obtain ⟨c0, c1, -⟩ := h'.cells
  have HC := Lib.hid (drain_any h' seat n h0 h20)
  clear h h' hb0
  go_enter Tryz.func141, Tryz.ntmps141
  go_wp2_with fail
  refine HC.out.mono ?_
  rintro e w1 hr
  obtain ⟨rfl, hr2⟩ := RetBd.of hr HTU.out rfl
  have HR := Lib.hid hr2
  clear hr hr2
  try dsimp only
  go_wp2
  go_end0
  exact ⟨rfl, HR.out⟩
set_option maxRecDepth 100000 in
set_option maxHeartbeats 4000000 in
theorem work_9 {w : World} {lo : Nat} {g : GhostB} {B : BoardL} (h : BoardAt w lo g B) (seat n on i : Int)  (hc : creE B.S i = 0) :
    Calls Tryz.prog 141 #[.pointer (some ⟨g.q, 0, none⟩), .int .i64 seat, .agg #[.int .i64 9, .int .i64 n, .int .i64 on], .int .i64 i] w (RetBd w lo g (⟨tapI B.S i, B.T, B.D⟩) (.tuple #[])) := by
  have hb0 := below_new w (.cells #[.int .i64 9, .int .i64 n, .int .i64 on] 58)
  have h' := h.later hb0
  have HTU := Lib.hid (TurnedB.of_below (g := g) hb0)
  obtain ⟨c0, c1, -⟩ := h'.cells
  obtain ⟨v, hg⟩ := taps_bd h' i hc
  have HC := Lib.hid hg
  clear hg
  clear h h' hb0
  go_enter Tryz.func141, Tryz.ntmps141
  go_wp2_with fail
  refine HC.out.mono ?_
  rintro e w1 hr
  obtain ⟨rfl, hr2⟩ := RetBd.of hr HTU.out rfl
  have HR := Lib.hid hr2
  clear hr hr2
  try dsimp only
  go_wp2
  go_end0
  exact ⟨rfl, HR.out⟩
/-- What a term does that may be done. -/
theorem work_any {w : World} {lo : Nat} {g : GhostB} {B : BoardL} (h : BoardAt w lo g B) (seat : Int) (t : Crd.TermL) (i : Int) (hs : hasT B seat = true) (ht : Crd.termB t = true) (hc : t.op = 6 ∨ t.op = 7 ∨ t.op = 9 → creE B.S i = 0) :
    Calls Tryz.prog 141 #[.pointer (some ⟨g.q, 0, none⟩), .int .i64 seat, Crd.tval t, .int .i64 i] w (RetBd w lo g (workB B seat t i) (.tuple #[])) := by
  obtain ⟨op, n, on⟩ := t
  obtain ⟨h0, h20, hp⟩ := term_parts ht
  unfold Crd.tval workB
  dsimp only at h0 h20 hp hc ⊢
  clear ht
  rcases (show op = 1 ∨ op = 2 ∨ op = 3 ∨ op = 4 ∨ op = 5 ∨ op = 6 ∨ op = 7 ∨ op = 8 ∨ op = 9 by omega) with rfl | rfl | rfl | rfl | rfl | rfl | rfl | rfl | rfl
  · exact work_1 h seat n on i h0 h20
  · exact work_2 h seat n on i
  · exact work_3 h seat n on i hs
  · exact work_4 h seat n on i
  · exact work_5 h seat n on i
  · exact work_6 h seat n on i (hc (by omega))
  · exact work_7 h seat n on i (hc (by omega))
  · exact work_8 h seat n on i h0 h20
  · exact work_9 h seat n on i (hc (by omega))
end Go.Proofs.YtookicopjphmnaaGreat
namespace Go.Proofs.YtookicopjphmnaaGreat
open Go.RowKit Go.Maps
attribute [local go_sem] Oper.semAt_some

/-- Whether a term is done, and what it makes of a board. -/
def canB (B : BoardL) (seat : Int) (t : Crd.TermL) (i : Int) : Bool := hasT B seat && (Crd.termB t && (chkT B.T B.S seat t.on i == 0))
def doB (B : BoardL) (seat : Int) (t : Crd.TermL) (i : Int) : BoardL := if canB B seat t i then workB B seat t i else B
theorem can_cre {B : BoardL} {seat i : Int} {t : Crd.TermL} (h : canB B seat t i = true) (hop : t.op = 6 ∨ t.op = 7 ∨ t.op = 9) : creE B.S i = 0 := by
  unfold canB at h
  simp only [Bool.and_eq_true, beq_iff_eq] at h
  obtain ⟨_, ht, hc⟩ := h
  obtain ⟨_, _, hp⟩ := term_parts ht
  have hon : t.on = 1 ∨ t.on = 2 := by omega
  unfold chkT at hc
  split at hc
  · cases hc
  · split at hc
    · rename_i hm
      unfold mayT at hm
      rcases hon with e | e <;> rw [e] at hm <;> simp at hm
      · exact hm
      · exact hm.1
    · cases hc
theorem keepC5 {w w' : World} {a0 a1 a2 a3 a4 : Addr} {v0 v1 v2 v3 v4 : Value} (hb : Below w.heap.size w w') (h : w.cell? a0 = some v0 ∧ w.cell? a1 = some v1 ∧ w.cell? a2 = some v2 ∧ w.cell? a3 = some v3 ∧ w.cell? a4 = some v4) :
    w'.cell? a0 = some v0 ∧ w'.cell? a1 = some v1 ∧ w'.cell? a2 = some v2 ∧ w'.cell? a3 = some v3 ∧ w'.cell? a4 = some v4 :=
  ⟨cell_stays hb h.1, cell_stays hb h.2.1, cell_stays hb h.2.2.1, cell_stays hb h.2.2.2.1, cell_stays hb h.2.2.2.2⟩
set_option maxRecDepth 100000 in
set_option maxHeartbeats 8000000 in
theorem do_any {w : World} {lo : Nat} {g : GhostB} {B : BoardL} (h : BoardAt w lo g B) (seat : Int) (t : Crd.TermL) (i : Int) :
    Calls Tryz.prog 122 #[.pointer (some ⟨g.q, 0, none⟩), .int .i64 seat, Crd.tval t, .int .i64 i] w (RetBd w lo g (doB B seat t i) (.bool (canB B seat t i))) := by
  have hcre := fun hc => can_cre (B := B) (seat := seat) (t := t) (i := i) hc
  have hwk : canB B seat t i = true → hasT B seat = true ∧ Crd.termB t = true := fun e => by
    unfold canB at e
    simp only [Bool.and_eq_true] at e
    exact ⟨e.1, e.2.1⟩
  have hb0 := below_new w (.cells #[.int .i64 t.op, .int .i64 t.n, .int .i64 t.on] 58)
  have h' := h.later hb0
  have HTU := Lib.hid (TurnedB.of_below (g := g) hb0)
  have hk := fun j => cell_of_row (w.alloc (.cells #[.int .i64 t.op, .int .i64 t.n, .int .i64 t.on] 58)) w.heap.size j _ _ _ (heap_alloc_new w (.cells #[.int .i64 t.op, .int .i64 t.n, .int .i64 t.on] 58))
  have k0 := hk 0
  have k1 := hk 1
  have k2 := hk 2
  obtain ⟨W, hW⟩ : ∃ W, w.alloc (.cells #[.int .i64 t.op, .int .i64 t.n, .int .i64 t.on] 58) = W := ⟨_, rfl⟩
  rw [hW] at k0 k1 k2 h' HTU
  have HW := Lib.hid hW
  obtain ⟨q6, hq6⟩ : ∃ q, w.heap.size = q := ⟨_, rfl⟩
  rw [hq6] at k0 k1 k2
  have HQ6 := Lib.hid hq6
  obtain ⟨c0, c1, -⟩ := h'.cells
  have HI := Lib.hid (show W.cell? ⟨g.q, 0, none⟩ = some (.pointer (some ⟨g.b, 0, none⟩)) ∧ W.cell? ⟨g.q, 1, none⟩ = some (.pointer (some ⟨g.tb, 0, none⟩)) ∧ W.cell? ⟨q6, 0, none⟩ = some (.int .i64 t.op) ∧ W.cell? ⟨q6, 1, none⟩ = some (.int .i64 t.n) ∧ W.cell? ⟨q6, 2, none⟩ = some (.int .i64 t.on) from ⟨c0, c1, k0, k1, k2⟩)
  have HH := Lib.hid (fun (w' : World) (hb : Below W.heap.size W w') => has11_any (h'.later hb) seat)
  have HC := Lib.hid (fun (w' : World) => Crd.checkTerm_any t w')
  have HA := Lib.hid (fun (w' : World) (hb : Below W.heap.size W w') => aimCheck_any (h'.later hb).st h.wf (by have := h.len; omega) (h'.later hb).tm seat t.on i)
  have HWK := Lib.hid (fun (w' : World) (hb : Below W.heap.size W w') (hc : canB B seat t i = true) => work_any (h'.later hb) seat t i (hwk hc).1 (hwk hc).2 (fun ho => hcre hc ho))
  have HBD := Lib.hid h'
  unfold doB
  unfold canB at HWK ⊢
  obtain ⟨z, hz⟩ : ∃ z, chkT B.T B.S seat t.on i = z := ⟨_, rfl⟩
  rw [hz] at HA HWK ⊢
  obtain ⟨op, n, on⟩ := t
  unfold Crd.tval at HC HWK ⊢
  dsimp only at HI HC HA HWK ⊢
  clear h h' hb0 hk k0 k1 k2 c0 c1 hcre hwk hW hq6 hz
  cases hs : hasT B seat with
  | false =>
    rw [hs] at HH
    rw [Bool.false_and, if_neg Bool.false_ne_true]
    clear hs HC HA HWK
    go_enter Tryz.func122, Tryz.ntmps122
    go_upto_region 1 with fail
    rw [HW.out]
    simp only [HQ6.out]
    refine wp_region_noPanic ?_
    refine (wpIn_wide (n := 9)).1 ?_
    refine wpIn_region_any (by kernel_rfl) ?_
    change wpAnyIn _ _ _ _ _ _ _ _ _ (World.drew _)
    refine anyS.any (S := fun w' => w'.cell? ⟨g.q, 0, none⟩ = some (.pointer (some ⟨g.b, 0, none⟩)) ∧ w'.cell? ⟨g.q, 1, none⟩ = some (.pointer (some ⟨g.tb, 0, none⟩)) ∧ w'.cell? ⟨q6, 0, none⟩ = some (.int .i64 op) ∧ w'.cell? ⟨q6, 1, none⟩ = some (.int .i64 n) ∧ w'.cell? ⟨q6, 2, none⟩ = some (.int .i64 on)) ?_
    refine anyS_take (i := 0) (v := ?_) (by kernel_rfl) rfl (by kernel_rfl) (by kernel_rfl) (by kernel_rfl) (fun _ _ _ h => h) (by kernel_rfl) (fun _ => by kernel_rfl) ?_ ?_
    rotate_left
    · intro w' hS
      go_simp
      try with_reducible rfl
    refine anyS_take (i := 1) (v := ?_) (by kernel_rfl) rfl (by kernel_rfl) (by kernel_rfl) (by kernel_rfl) (fun _ _ _ h => h) (by kernel_rfl) (fun _ => by kernel_rfl) ?_ ?_
    rotate_left
    · intro w' hS
      go_simp
      try with_reducible rfl
    refine anyS_one (i := 2) (by kernel_rfl) rfl (keepC5 (Below.refl W.heap.size W).drew HI.out) (fun K hK => ?_)
    go_simp
    gi_wp2_with ((refine ⟨trivial, ?_⟩; gi_at_call 139; refine CallsIn.mono (F := Fence.wide) (callsIn_wide.2 (HH.out _ ((Below.refl W.heap.size W).drew))) ?_; rintro e w9 ⟨rfl, rfl⟩; dsimp only))
    refine anyS_take (i := 3) (v := ?_) (by kernel_rfl) rfl (by kernel_rfl) (by kernel_rfl) (by kernel_rfl) (fun _ _ _ h => h) (by kernel_rfl) (fun _ => by kernel_rfl) ?_ ?_
    rotate_left
    · intro w' hS
      go_simp
      try with_reducible rfl
    refine anyS_take (i := 4) (v := ?_) (by kernel_rfl) rfl (by kernel_rfl) (by kernel_rfl) (by kernel_rfl) (fun _ _ _ h => h) (by kernel_rfl) (fun _ => by kernel_rfl) ?_ ?_
    rotate_left
    · intro w' hS
      go_simp
      try with_reducible rfl
    refine anyS_skip (i := 5) (by kernel_rfl) rfl (by kernel_rfl) (by kernel_rfl) (by kernel_rfl) (fun _ _ _ h => h) (by kernel_rfl) (fun _ => by kernel_rfl) ?_
    refine anyS_one (i := 6) (by kernel_rfl) rfl (keepC5 (Below.refl W.heap.size W).drew HI.out) (fun K hK => ?_)
    go_simp
    refine ⟨trivial, hK _ _ ?_⟩
    clear hK K
    refine anyS_skip (i := 7) (by kernel_rfl) rfl (by kernel_rfl) (by kernel_rfl) (by kernel_rfl) (fun _ _ _ h => h) (by kernel_rfl) (fun _ => by kernel_rfl) ?_
    refine anyS_take (i := 8) (v := ?_) (by kernel_rfl) rfl (by kernel_rfl) (by kernel_rfl) (by kernel_rfl) (fun _ _ _ h => h) (by kernel_rfl) (fun _ => by kernel_rfl) ?_ ?_
    rotate_left
    · intro w' hS
      go_simp
      try with_reducible rfl
    refine anyS_take (i := 9) (v := ?_) (by kernel_rfl) rfl (by kernel_rfl) (by kernel_rfl) (by kernel_rfl) (fun _ _ _ h => h) (by kernel_rfl) (fun _ => by kernel_rfl) ?_ ?_
    rotate_left
    · intro w' hS
      go_simp
      try with_reducible rfl
    refine anyS_skip (i := 10) (by kernel_rfl) rfl (by kernel_rfl) (by kernel_rfl) (by kernel_rfl) (fun _ _ _ h => h) (by kernel_rfl) (fun _ => by kernel_rfl) ?_
    refine anyS_skip (i := 11) (by kernel_rfl) rfl (by kernel_rfl) (by kernel_rfl) (by kernel_rfl) (fun _ _ _ h => h) (by kernel_rfl) (fun _ => by kernel_rfl) ?_
    refine anyS_skip (i := 12) (by kernel_rfl) rfl (by kernel_rfl) (by kernel_rfl) (by kernel_rfl) (fun _ _ _ h => h) (by kernel_rfl) (fun _ => by kernel_rfl) ?_
    refine anyS_skip (i := 13) (by kernel_rfl) rfl (by kernel_rfl) (by kernel_rfl) (by kernel_rfl) (fun _ _ _ h => h) (by kernel_rfl) (fun _ => by kernel_rfl) ?_
    refine anyS_skip (i := 14) (by kernel_rfl) rfl (by kernel_rfl) (by kernel_rfl) (by kernel_rfl) (fun _ _ _ h => h) (by kernel_rfl) (fun _ => by kernel_rfl) ?_
    refine anyS_skip (i := 15) (by kernel_rfl) rfl (by kernel_rfl) (by kernel_rfl) (by kernel_rfl) (fun _ _ _ h => h) (by kernel_rfl) (fun _ => by kernel_rfl) ?_
    refine anyS_skip (i := 16) (by kernel_rfl) rfl (by kernel_rfl) (by kernel_rfl) (by kernel_rfl) (fun _ _ _ h => h) (by kernel_rfl) (fun _ => by kernel_rfl) ?_
    refine anyS_skip (i := 17) (by kernel_rfl) rfl (by kernel_rfl) (by kernel_rfl) (by kernel_rfl) (fun _ _ _ h => h) (by kernel_rfl) (fun _ => by kernel_rfl) ?_
    refine anyS_skip (i := 18) (by kernel_rfl) rfl (by kernel_rfl) (by kernel_rfl) (by kernel_rfl) (fun _ _ _ h => h) (by kernel_rfl) (fun _ => by kernel_rfl) ?_
    refine anyS_skip (i := 19) (by kernel_rfl) rfl (by kernel_rfl) (by kernel_rfl) (by kernel_rfl) (fun _ _ _ h => h) (by kernel_rfl) (fun _ => by kernel_rfl) ?_
    refine anyS_skip (i := 20) (by kernel_rfl) rfl (by kernel_rfl) (by kernel_rfl) (by kernel_rfl) (fun _ _ _ h => h) (by kernel_rfl) (fun _ => by kernel_rfl) ?_
    refine anyS_skip (i := 21) (by kernel_rfl) rfl (by kernel_rfl) (by kernel_rfl) (by kernel_rfl) (fun _ _ _ h => h) (by kernel_rfl) (fun _ => by kernel_rfl) ?_
    refine anyS_one (i := 22) (by kernel_rfl) rfl (keepC5 (Below.refl W.heap.size W).drew HI.out) (fun K hK => ?_)
    go_simp
    refine ⟨trivial, hK _ _ ?_⟩
    clear hK K
    refine anyS_skip (i := 23) (by kernel_rfl) rfl (by kernel_rfl) (by kernel_rfl) (by kernel_rfl) (fun _ _ _ h => h) (by kernel_rfl) (fun _ => by kernel_rfl) ?_
    refine anyS_take (i := 24) (v := ?_) (by kernel_rfl) rfl (by kernel_rfl) (by kernel_rfl) (by kernel_rfl) (fun _ _ _ h => h) (by kernel_rfl) (fun _ => by kernel_rfl) ?_ ?_
    rotate_left
    · intro w' hS
      go_simp
      try with_reducible rfl
    refine anyS_done (by kernel_rfl) (keepC5 (Below.refl W.heap.size W).drew HI.out) ?_ _
    refine NoPanic.normal ?_
    go_wp2
    go_ret
    exact ⟨rfl, g, HBD.out.later ((Below.refl W.heap.size W).drew), HTU.out.trans (TurnedB.of_below ((Below.refl W.heap.size W).drew)), rfl⟩
  | true =>
    rw [hs] at HH HWK
    rw [Bool.true_and] at HWK ⊢
    clear hs
    cases ht : Crd.termB ⟨op, n, on⟩ with
    | false =>
      rw [ht] at HC
      rw [Bool.false_and, if_neg Bool.false_ne_true]
      rw [show Crd.cardE false = 8 from rfl] at HC
      clear ht HA HWK
      go_enter Tryz.func122, Tryz.ntmps122
      go_upto_region 1 with fail
      rw [HW.out]
      simp only [HQ6.out]
      refine wp_region_noPanic ?_
      refine (wpIn_wide (n := 9)).1 ?_
      refine wpIn_region_any (by kernel_rfl) ?_
      change wpAnyIn _ _ _ _ _ _ _ _ _ (World.drew _)
      refine anyS.any (S := fun w' => w'.cell? ⟨g.q, 0, none⟩ = some (.pointer (some ⟨g.b, 0, none⟩)) ∧ w'.cell? ⟨g.q, 1, none⟩ = some (.pointer (some ⟨g.tb, 0, none⟩)) ∧ w'.cell? ⟨q6, 0, none⟩ = some (.int .i64 op) ∧ w'.cell? ⟨q6, 1, none⟩ = some (.int .i64 n) ∧ w'.cell? ⟨q6, 2, none⟩ = some (.int .i64 on)) ?_
      refine anyS_take (i := 0) (v := ?_) (by kernel_rfl) rfl (by kernel_rfl) (by kernel_rfl) (by kernel_rfl) (fun _ _ _ h => h) (by kernel_rfl) (fun _ => by kernel_rfl) ?_ ?_
      rotate_left
      · intro w' hS
        go_simp
        try with_reducible rfl
      refine anyS_take (i := 1) (v := ?_) (by kernel_rfl) rfl (by kernel_rfl) (by kernel_rfl) (by kernel_rfl) (fun _ _ _ h => h) (by kernel_rfl) (fun _ => by kernel_rfl) ?_ ?_
      rotate_left
      · intro w' hS
        go_simp
        try with_reducible rfl
      refine anyS_one (i := 2) (by kernel_rfl) rfl (keepC5 (Below.refl W.heap.size W).drew HI.out) (fun K hK => ?_)
      go_simp
      gi_wp2_with ((refine ⟨trivial, ?_⟩; gi_at_call 139; refine CallsIn.mono (F := Fence.wide) (callsIn_wide.2 (HH.out _ ((Below.refl W.heap.size W).drew))) ?_; rintro e w9 ⟨rfl, rfl⟩; dsimp only))
      refine anyS_take (i := 3) (v := ?_) (by kernel_rfl) rfl (by kernel_rfl) (by kernel_rfl) (by kernel_rfl) (fun _ _ _ h => h) (by kernel_rfl) (fun _ => by kernel_rfl) ?_ ?_
      rotate_left
      · intro w' hS
        go_simp
        try with_reducible rfl
      refine anyS_take (i := 4) (v := ?_) (by kernel_rfl) rfl (by kernel_rfl) (by kernel_rfl) (by kernel_rfl) (fun _ _ _ h => h) (by kernel_rfl) (fun _ => by kernel_rfl) ?_ ?_
      rotate_left
      · intro w' hS
        go_simp
        try with_reducible rfl
      refine anyS_take (i := 5) (v := ?_) (by kernel_rfl) rfl (by kernel_rfl) (by kernel_rfl) (by kernel_rfl) (fun _ _ _ h => h) (by kernel_rfl) (fun _ => by kernel_rfl) ?_ ?_
      rotate_left
      · intro w' hS
        obtain ⟨s0, s1, s2, s3, s4⟩ := hS
        go_simp
        try with_reducible rfl
      refine anyS_one (i := 6) (by kernel_rfl) rfl (keepC5 (Below.refl W.heap.size W).drew HI.out) (fun K hK => ?_)
      go_simp
      gi_wp2_with ((refine ⟨trivial, ?_⟩; gi_at_call 140; refine CallsIn.mono (F := Fence.wide) (callsIn_wide.2 (HC.out _)) ?_; rintro e w9 ⟨rfl, hb9⟩; have HB9 := Lib.hid (stepB (Below.refl W.heap.size W).drew hb9); clear hb9; dsimp only))
      refine anyS_take (i := 7) (v := ?_) (by kernel_rfl) rfl (by kernel_rfl) (by kernel_rfl) (by kernel_rfl) (fun _ _ _ h => h) (by kernel_rfl) (fun _ => by kernel_rfl) ?_ ?_
      rotate_left
      · intro w' hS
        go_simp
        try with_reducible rfl
      refine anyS_take (i := 8) (v := ?_) (by kernel_rfl) rfl (by kernel_rfl) (by kernel_rfl) (by kernel_rfl) (fun _ _ _ h => h) (by kernel_rfl) (fun _ => by kernel_rfl) ?_ ?_
      rotate_left
      · intro w' hS
        go_simp
        try with_reducible rfl
      refine anyS_take (i := 9) (v := ?_) (by kernel_rfl) rfl (by kernel_rfl) (by kernel_rfl) (by kernel_rfl) (fun _ _ _ h => h) (by kernel_rfl) (fun _ => by kernel_rfl) ?_ ?_
      rotate_left
      · intro w' hS
        go_simp
        try with_reducible rfl
      refine anyS_skip (i := 10) (by kernel_rfl) rfl (by kernel_rfl) (by kernel_rfl) (by kernel_rfl) (fun _ _ _ h => h) (by kernel_rfl) (fun _ => by kernel_rfl) ?_
      refine anyS_skip (i := 11) (by kernel_rfl) rfl (by kernel_rfl) (by kernel_rfl) (by kernel_rfl) (fun _ _ _ h => h) (by kernel_rfl) (fun _ => by kernel_rfl) ?_
      refine anyS_skip (i := 12) (by kernel_rfl) rfl (by kernel_rfl) (by kernel_rfl) (by kernel_rfl) (fun _ _ _ h => h) (by kernel_rfl) (fun _ => by kernel_rfl) ?_
      refine anyS_skip (i := 13) (by kernel_rfl) rfl (by kernel_rfl) (by kernel_rfl) (by kernel_rfl) (fun _ _ _ h => h) (by kernel_rfl) (fun _ => by kernel_rfl) ?_
      refine anyS_skip (i := 14) (by kernel_rfl) rfl (by kernel_rfl) (by kernel_rfl) (by kernel_rfl) (fun _ _ _ h => h) (by kernel_rfl) (fun _ => by kernel_rfl) ?_
      refine anyS_skip (i := 15) (by kernel_rfl) rfl (by kernel_rfl) (by kernel_rfl) (by kernel_rfl) (fun _ _ _ h => h) (by kernel_rfl) (fun _ => by kernel_rfl) ?_
      refine anyS_skip (i := 16) (by kernel_rfl) rfl (by kernel_rfl) (by kernel_rfl) (by kernel_rfl) (fun _ _ _ h => h) (by kernel_rfl) (fun _ => by kernel_rfl) ?_
      refine anyS_skip (i := 17) (by kernel_rfl) rfl (by kernel_rfl) (by kernel_rfl) (by kernel_rfl) (fun _ _ _ h => h) (by kernel_rfl) (fun _ => by kernel_rfl) ?_
      refine anyS_skip (i := 18) (by kernel_rfl) rfl (by kernel_rfl) (by kernel_rfl) (by kernel_rfl) (fun _ _ _ h => h) (by kernel_rfl) (fun _ => by kernel_rfl) ?_
      refine anyS_skip (i := 19) (by kernel_rfl) rfl (by kernel_rfl) (by kernel_rfl) (by kernel_rfl) (fun _ _ _ h => h) (by kernel_rfl) (fun _ => by kernel_rfl) ?_
      refine anyS_skip (i := 20) (by kernel_rfl) rfl (by kernel_rfl) (by kernel_rfl) (by kernel_rfl) (fun _ _ _ h => h) (by kernel_rfl) (fun _ => by kernel_rfl) ?_
      refine anyS_skip (i := 21) (by kernel_rfl) rfl (by kernel_rfl) (by kernel_rfl) (by kernel_rfl) (fun _ _ _ h => h) (by kernel_rfl) (fun _ => by kernel_rfl) ?_
      refine anyS_one (i := 22) (by kernel_rfl) rfl (keepC5 HB9.out HI.out) (fun K hK => ?_)
      go_simp
      refine ⟨trivial, hK _ _ ?_⟩
      clear hK K
      refine anyS_skip (i := 23) (by kernel_rfl) rfl (by kernel_rfl) (by kernel_rfl) (by kernel_rfl) (fun _ _ _ h => h) (by kernel_rfl) (fun _ => by kernel_rfl) ?_
      refine anyS_take (i := 24) (v := ?_) (by kernel_rfl) rfl (by kernel_rfl) (by kernel_rfl) (by kernel_rfl) (fun _ _ _ h => h) (by kernel_rfl) (fun _ => by kernel_rfl) ?_ ?_
      rotate_left
      · intro w' hS
        go_simp
        try with_reducible rfl
      refine anyS_done (by kernel_rfl) (keepC5 HB9.out HI.out) ?_ _
      refine NoPanic.normal ?_
      go_wp2
      go_ret
      exact ⟨rfl, g, HBD.out.later HB9.out, HTU.out.trans (TurnedB.of_below HB9.out), rfl⟩
    | true =>
      rw [ht] at HC HWK
      rw [Bool.true_and] at HWK ⊢
      rw [show Crd.cardE true = 0 from rfl] at HC
      clear ht
      by_cases hz : z = 0
      · subst hz
        have HWK2 := Lib.hid (fun (w' : World) (hb : Below W.heap.size W w') => HWK.out w' hb rfl)
        rw [show ((0 : Int) == 0) = true from rfl, if_pos rfl]
        clear HWK
        go_enter Tryz.func122, Tryz.ntmps122
        go_upto_region 1 with fail
        rw [HW.out]
        simp only [HQ6.out]
        refine wp_region_noPanic ?_
        refine (wpIn_wide (n := 9)).1 ?_
        refine wpIn_region_any (by kernel_rfl) ?_
        change wpAnyIn _ _ _ _ _ _ _ _ _ (World.drew _)
        refine anyS.any (S := fun w' => w'.cell? ⟨g.q, 0, none⟩ = some (.pointer (some ⟨g.b, 0, none⟩)) ∧ w'.cell? ⟨g.q, 1, none⟩ = some (.pointer (some ⟨g.tb, 0, none⟩)) ∧ w'.cell? ⟨q6, 0, none⟩ = some (.int .i64 op) ∧ w'.cell? ⟨q6, 1, none⟩ = some (.int .i64 n) ∧ w'.cell? ⟨q6, 2, none⟩ = some (.int .i64 on)) ?_
        refine anyS_take (i := 0) (v := ?_) (by kernel_rfl) rfl (by kernel_rfl) (by kernel_rfl) (by kernel_rfl) (fun _ _ _ h => h) (by kernel_rfl) (fun _ => by kernel_rfl) ?_ ?_
        rotate_left
        · intro w' hS
          go_simp
          try with_reducible rfl
        refine anyS_take (i := 1) (v := ?_) (by kernel_rfl) rfl (by kernel_rfl) (by kernel_rfl) (by kernel_rfl) (fun _ _ _ h => h) (by kernel_rfl) (fun _ => by kernel_rfl) ?_ ?_
        rotate_left
        · intro w' hS
          go_simp
          try with_reducible rfl
        refine anyS_one (i := 2) (by kernel_rfl) rfl (keepC5 (Below.refl W.heap.size W).drew HI.out) (fun K hK => ?_)
        go_simp
        gi_wp2_with ((refine ⟨trivial, ?_⟩; gi_at_call 139; refine CallsIn.mono (F := Fence.wide) (callsIn_wide.2 (HH.out _ ((Below.refl W.heap.size W).drew))) ?_; rintro e w9 ⟨rfl, rfl⟩; dsimp only))
        refine anyS_take (i := 3) (v := ?_) (by kernel_rfl) rfl (by kernel_rfl) (by kernel_rfl) (by kernel_rfl) (fun _ _ _ h => h) (by kernel_rfl) (fun _ => by kernel_rfl) ?_ ?_
        rotate_left
        · intro w' hS
          go_simp
          try with_reducible rfl
        refine anyS_take (i := 4) (v := ?_) (by kernel_rfl) rfl (by kernel_rfl) (by kernel_rfl) (by kernel_rfl) (fun _ _ _ h => h) (by kernel_rfl) (fun _ => by kernel_rfl) ?_ ?_
        rotate_left
        · intro w' hS
          go_simp
          try with_reducible rfl
        refine anyS_take (i := 5) (v := ?_) (by kernel_rfl) rfl (by kernel_rfl) (by kernel_rfl) (by kernel_rfl) (fun _ _ _ h => h) (by kernel_rfl) (fun _ => by kernel_rfl) ?_ ?_
        rotate_left
        · intro w' hS
          obtain ⟨s0, s1, s2, s3, s4⟩ := hS
          go_simp
          try with_reducible rfl
        refine anyS_one (i := 6) (by kernel_rfl) rfl (keepC5 (Below.refl W.heap.size W).drew HI.out) (fun K hK => ?_)
        go_simp
        gi_wp2_with ((refine ⟨trivial, ?_⟩; gi_at_call 140; refine CallsIn.mono (F := Fence.wide) (callsIn_wide.2 (HC.out _)) ?_; rintro e w9 ⟨rfl, hb9⟩; have HB9 := Lib.hid (stepB (Below.refl W.heap.size W).drew hb9); clear hb9; dsimp only))
        refine anyS_take (i := 7) (v := ?_) (by kernel_rfl) rfl (by kernel_rfl) (by kernel_rfl) (by kernel_rfl) (fun _ _ _ h => h) (by kernel_rfl) (fun _ => by kernel_rfl) ?_ ?_
        rotate_left
        · intro w' hS
          go_simp
          try with_reducible rfl
        refine anyS_take (i := 8) (v := ?_) (by kernel_rfl) rfl (by kernel_rfl) (by kernel_rfl) (by kernel_rfl) (fun _ _ _ h => h) (by kernel_rfl) (fun _ => by kernel_rfl) ?_ ?_
        rotate_left
        · intro w' hS
          go_simp
          try with_reducible rfl
        refine anyS_take (i := 9) (v := ?_) (by kernel_rfl) rfl (by kernel_rfl) (by kernel_rfl) (by kernel_rfl) (fun _ _ _ h => h) (by kernel_rfl) (fun _ => by kernel_rfl) ?_ ?_
        rotate_left
        · intro w' hS
          go_simp
          try with_reducible rfl
        refine anyS_take (i := 10) (v := ?_) (by kernel_rfl) rfl (by kernel_rfl) (by kernel_rfl) (by kernel_rfl) (fun _ _ _ h => h) (by kernel_rfl) (fun _ => by kernel_rfl) ?_ ?_
        rotate_left
        · intro w' hS
          go_simp
          try with_reducible rfl
        refine anyS_take (i := 11) (v := ?_) (by kernel_rfl) rfl (by kernel_rfl) (by kernel_rfl) (by kernel_rfl) (fun _ _ _ h => h) (by kernel_rfl) (fun _ => by kernel_rfl) ?_ ?_
        rotate_left
        · intro w' hS
          go_simp
          try with_reducible rfl
        refine anyS_take (i := 12) (v := ?_) (by kernel_rfl) rfl (by kernel_rfl) (by kernel_rfl) (by kernel_rfl) (fun _ _ _ h => h) (by kernel_rfl) (fun _ => by kernel_rfl) ?_ ?_
        rotate_left
        · intro w' hS
          go_simp
          try with_reducible rfl
        refine anyS_take (i := 13) (v := ?_) (by kernel_rfl) rfl (by kernel_rfl) (by kernel_rfl) (by kernel_rfl) (fun _ _ _ h => h) (by kernel_rfl) (fun _ => by kernel_rfl) ?_ ?_
        rotate_left
        · intro w' hS
          obtain ⟨s0, s1, s2, s3, s4⟩ := hS
          go_simp
          try with_reducible rfl
        refine anyS_take (i := 14) (v := ?_) (by kernel_rfl) rfl (by kernel_rfl) (by kernel_rfl) (by kernel_rfl) (fun _ _ _ h => h) (by kernel_rfl) (fun _ => by kernel_rfl) ?_ ?_
        rotate_left
        · intro w' hS
          go_simp
          try with_reducible rfl
        refine anyS_take (i := 15) (v := ?_) (by kernel_rfl) rfl (by kernel_rfl) (by kernel_rfl) (by kernel_rfl) (fun _ _ _ h => h) (by kernel_rfl) (fun _ => by kernel_rfl) ?_ ?_
        rotate_left
        · intro w' hS
          go_simp
          try with_reducible rfl
        refine anyS_take (i := 16) (v := ?_) (by kernel_rfl) rfl (by kernel_rfl) (by kernel_rfl) (by kernel_rfl) (fun _ _ _ h => h) (by kernel_rfl) (fun _ => by kernel_rfl) ?_ ?_
        rotate_left
        · intro w' hS
          go_simp
          try with_reducible rfl
        refine anyS_take (i := 17) (v := ?_) (by kernel_rfl) rfl (by kernel_rfl) (by kernel_rfl) (by kernel_rfl) (fun _ _ _ h => h) (by kernel_rfl) (fun _ => by kernel_rfl) ?_ ?_
        rotate_left
        · intro w' hS
          obtain ⟨s0, s1, s2, s3, s4⟩ := hS
          go_simp
          try with_reducible rfl
        refine anyS_take (i := 18) (v := ?_) (by kernel_rfl) rfl (by kernel_rfl) (by kernel_rfl) (by kernel_rfl) (fun _ _ _ h => h) (by kernel_rfl) (fun _ => by kernel_rfl) ?_ ?_
        rotate_left
        · intro w' hS
          go_simp
          try with_reducible rfl
        refine anyS_take (i := 19) (v := ?_) (by kernel_rfl) rfl (by kernel_rfl) (by kernel_rfl) (by kernel_rfl) (fun _ _ _ h => h) (by kernel_rfl) (fun _ => by kernel_rfl) ?_ ?_
        rotate_left
        · intro w' hS
          go_simp
          try with_reducible rfl
        refine anyS_take (i := 20) (v := ?_) (by kernel_rfl) rfl (by kernel_rfl) (by kernel_rfl) (by kernel_rfl) (fun _ _ _ h => h) (by kernel_rfl) (fun _ => by kernel_rfl) ?_ ?_
        rotate_left
        · intro w' hS
          obtain ⟨s0, s1, s2, s3, s4⟩ := hS
          go_simp
          try with_reducible rfl
        refine anyS_take (i := 21) (v := ?_) (by kernel_rfl) rfl (by kernel_rfl) (by kernel_rfl) (by kernel_rfl) (fun _ _ _ h => h) (by kernel_rfl) (fun _ => by kernel_rfl) ?_ ?_
        rotate_left
        · intro w' hS
          go_simp
          try with_reducible rfl
        refine anyS_one (i := 22) (by kernel_rfl) rfl (keepC5 HB9.out HI.out) (fun K hK => ?_)
        go_simp
        gi_wp2_with ((refine ⟨trivial, ?_⟩; gi_at_call 77; refine CallsIn.mono (F := Fence.wide) (callsIn_wide.2 (HA.out _ HB9.out)) ?_; rintro e w10 ⟨rfl, hb10⟩; have HB10 := Lib.hid (stepB HB9.out hb10); clear hb10; dsimp only))
        refine anyS_take (i := 23) (v := ?_) (by kernel_rfl) rfl (by kernel_rfl) (by kernel_rfl) (by kernel_rfl) (fun _ _ _ h => h) (by kernel_rfl) (fun _ => by kernel_rfl) ?_ ?_
        rotate_left
        · intro w' hS
          go_simp
          try with_reducible rfl
        refine anyS_take (i := 24) (v := ?_) (by kernel_rfl) rfl (by kernel_rfl) (by kernel_rfl) (by kernel_rfl) (fun _ _ _ h => h) (by kernel_rfl) (fun _ => by kernel_rfl) ?_ ?_
        rotate_left
        · intro w' hS
          go_simp
          try with_reducible rfl
        refine anyS_done (by kernel_rfl) (keepC5 HB10.out HI.out) ?_ _
        refine NoPanic.normal ?_
        have hI := keepC5 HB10.out HI.out
        obtain ⟨s0, s1, s2, s3, s4⟩ := hI
        go_wp2_with fail
        refine (HWK2.out _ HB10.out).mono ?_
        rintro e w11 hr
        obtain ⟨rfl, g', hr1, hr2, hr3⟩ := RetBd.of hr (HTU.out.trans (TurnedB.of_below HB10.out)) rfl
        have HR := Lib.hid (And.intro hr1 (And.intro hr2 hr3))
        clear hr hr1 hr2 hr3 s0 s1 s2 s3 s4
        go_wp2
        go_ret
        exact ⟨rfl, g', HR.out⟩
      · have ez : (z != 0) = true := bne_iff_ne.2 hz
        rw [show (z == 0) = false from beq_eq_false_iff_ne.2 hz, if_neg Bool.false_ne_true]
        clear hz HWK
        go_enter Tryz.func122, Tryz.ntmps122
        go_upto_region 1 with fail
        rw [HW.out]
        simp only [HQ6.out]
        refine wp_region_noPanic ?_
        refine (wpIn_wide (n := 9)).1 ?_
        refine wpIn_region_any (by kernel_rfl) ?_
        change wpAnyIn _ _ _ _ _ _ _ _ _ (World.drew _)
        refine anyS.any (S := fun w' => w'.cell? ⟨g.q, 0, none⟩ = some (.pointer (some ⟨g.b, 0, none⟩)) ∧ w'.cell? ⟨g.q, 1, none⟩ = some (.pointer (some ⟨g.tb, 0, none⟩)) ∧ w'.cell? ⟨q6, 0, none⟩ = some (.int .i64 op) ∧ w'.cell? ⟨q6, 1, none⟩ = some (.int .i64 n) ∧ w'.cell? ⟨q6, 2, none⟩ = some (.int .i64 on)) ?_
        refine anyS_take (i := 0) (v := ?_) (by kernel_rfl) rfl (by kernel_rfl) (by kernel_rfl) (by kernel_rfl) (fun _ _ _ h => h) (by kernel_rfl) (fun _ => by kernel_rfl) ?_ ?_
        rotate_left
        · intro w' hS
          go_simp
          try with_reducible rfl
        refine anyS_take (i := 1) (v := ?_) (by kernel_rfl) rfl (by kernel_rfl) (by kernel_rfl) (by kernel_rfl) (fun _ _ _ h => h) (by kernel_rfl) (fun _ => by kernel_rfl) ?_ ?_
        rotate_left
        · intro w' hS
          go_simp
          try with_reducible rfl
        refine anyS_one (i := 2) (by kernel_rfl) rfl (keepC5 (Below.refl W.heap.size W).drew HI.out) (fun K hK => ?_)
        go_simp
        gi_wp2_with ((refine ⟨trivial, ?_⟩; gi_at_call 139; refine CallsIn.mono (F := Fence.wide) (callsIn_wide.2 (HH.out _ ((Below.refl W.heap.size W).drew))) ?_; rintro e w9 ⟨rfl, rfl⟩; dsimp only))
        refine anyS_take (i := 3) (v := ?_) (by kernel_rfl) rfl (by kernel_rfl) (by kernel_rfl) (by kernel_rfl) (fun _ _ _ h => h) (by kernel_rfl) (fun _ => by kernel_rfl) ?_ ?_
        rotate_left
        · intro w' hS
          go_simp
          try with_reducible rfl
        refine anyS_take (i := 4) (v := ?_) (by kernel_rfl) rfl (by kernel_rfl) (by kernel_rfl) (by kernel_rfl) (fun _ _ _ h => h) (by kernel_rfl) (fun _ => by kernel_rfl) ?_ ?_
        rotate_left
        · intro w' hS
          go_simp
          try with_reducible rfl
        refine anyS_take (i := 5) (v := ?_) (by kernel_rfl) rfl (by kernel_rfl) (by kernel_rfl) (by kernel_rfl) (fun _ _ _ h => h) (by kernel_rfl) (fun _ => by kernel_rfl) ?_ ?_
        rotate_left
        · intro w' hS
          obtain ⟨s0, s1, s2, s3, s4⟩ := hS
          go_simp
          try with_reducible rfl
        refine anyS_one (i := 6) (by kernel_rfl) rfl (keepC5 (Below.refl W.heap.size W).drew HI.out) (fun K hK => ?_)
        go_simp
        gi_wp2_with ((refine ⟨trivial, ?_⟩; gi_at_call 140; refine CallsIn.mono (F := Fence.wide) (callsIn_wide.2 (HC.out _)) ?_; rintro e w9 ⟨rfl, hb9⟩; have HB9 := Lib.hid (stepB (Below.refl W.heap.size W).drew hb9); clear hb9; dsimp only))
        refine anyS_take (i := 7) (v := ?_) (by kernel_rfl) rfl (by kernel_rfl) (by kernel_rfl) (by kernel_rfl) (fun _ _ _ h => h) (by kernel_rfl) (fun _ => by kernel_rfl) ?_ ?_
        rotate_left
        · intro w' hS
          go_simp
          try with_reducible rfl
        refine anyS_take (i := 8) (v := ?_) (by kernel_rfl) rfl (by kernel_rfl) (by kernel_rfl) (by kernel_rfl) (fun _ _ _ h => h) (by kernel_rfl) (fun _ => by kernel_rfl) ?_ ?_
        rotate_left
        · intro w' hS
          go_simp
          try with_reducible rfl
        refine anyS_take (i := 9) (v := ?_) (by kernel_rfl) rfl (by kernel_rfl) (by kernel_rfl) (by kernel_rfl) (fun _ _ _ h => h) (by kernel_rfl) (fun _ => by kernel_rfl) ?_ ?_
        rotate_left
        · intro w' hS
          go_simp
          try with_reducible rfl
        refine anyS_take (i := 10) (v := ?_) (by kernel_rfl) rfl (by kernel_rfl) (by kernel_rfl) (by kernel_rfl) (fun _ _ _ h => h) (by kernel_rfl) (fun _ => by kernel_rfl) ?_ ?_
        rotate_left
        · intro w' hS
          go_simp
          try with_reducible rfl
        refine anyS_take (i := 11) (v := ?_) (by kernel_rfl) rfl (by kernel_rfl) (by kernel_rfl) (by kernel_rfl) (fun _ _ _ h => h) (by kernel_rfl) (fun _ => by kernel_rfl) ?_ ?_
        rotate_left
        · intro w' hS
          go_simp
          try with_reducible rfl
        refine anyS_take (i := 12) (v := ?_) (by kernel_rfl) rfl (by kernel_rfl) (by kernel_rfl) (by kernel_rfl) (fun _ _ _ h => h) (by kernel_rfl) (fun _ => by kernel_rfl) ?_ ?_
        rotate_left
        · intro w' hS
          go_simp
          try with_reducible rfl
        refine anyS_take (i := 13) (v := ?_) (by kernel_rfl) rfl (by kernel_rfl) (by kernel_rfl) (by kernel_rfl) (fun _ _ _ h => h) (by kernel_rfl) (fun _ => by kernel_rfl) ?_ ?_
        rotate_left
        · intro w' hS
          obtain ⟨s0, s1, s2, s3, s4⟩ := hS
          go_simp
          try with_reducible rfl
        refine anyS_take (i := 14) (v := ?_) (by kernel_rfl) rfl (by kernel_rfl) (by kernel_rfl) (by kernel_rfl) (fun _ _ _ h => h) (by kernel_rfl) (fun _ => by kernel_rfl) ?_ ?_
        rotate_left
        · intro w' hS
          go_simp
          try with_reducible rfl
        refine anyS_take (i := 15) (v := ?_) (by kernel_rfl) rfl (by kernel_rfl) (by kernel_rfl) (by kernel_rfl) (fun _ _ _ h => h) (by kernel_rfl) (fun _ => by kernel_rfl) ?_ ?_
        rotate_left
        · intro w' hS
          go_simp
          try with_reducible rfl
        refine anyS_take (i := 16) (v := ?_) (by kernel_rfl) rfl (by kernel_rfl) (by kernel_rfl) (by kernel_rfl) (fun _ _ _ h => h) (by kernel_rfl) (fun _ => by kernel_rfl) ?_ ?_
        rotate_left
        · intro w' hS
          go_simp
          try with_reducible rfl
        refine anyS_take (i := 17) (v := ?_) (by kernel_rfl) rfl (by kernel_rfl) (by kernel_rfl) (by kernel_rfl) (fun _ _ _ h => h) (by kernel_rfl) (fun _ => by kernel_rfl) ?_ ?_
        rotate_left
        · intro w' hS
          obtain ⟨s0, s1, s2, s3, s4⟩ := hS
          go_simp
          try with_reducible rfl
        refine anyS_take (i := 18) (v := ?_) (by kernel_rfl) rfl (by kernel_rfl) (by kernel_rfl) (by kernel_rfl) (fun _ _ _ h => h) (by kernel_rfl) (fun _ => by kernel_rfl) ?_ ?_
        rotate_left
        · intro w' hS
          go_simp
          try with_reducible rfl
        refine anyS_take (i := 19) (v := ?_) (by kernel_rfl) rfl (by kernel_rfl) (by kernel_rfl) (by kernel_rfl) (fun _ _ _ h => h) (by kernel_rfl) (fun _ => by kernel_rfl) ?_ ?_
        rotate_left
        · intro w' hS
          go_simp
          try with_reducible rfl
        refine anyS_take (i := 20) (v := ?_) (by kernel_rfl) rfl (by kernel_rfl) (by kernel_rfl) (by kernel_rfl) (fun _ _ _ h => h) (by kernel_rfl) (fun _ => by kernel_rfl) ?_ ?_
        rotate_left
        · intro w' hS
          obtain ⟨s0, s1, s2, s3, s4⟩ := hS
          go_simp
          try with_reducible rfl
        refine anyS_take (i := 21) (v := ?_) (by kernel_rfl) rfl (by kernel_rfl) (by kernel_rfl) (by kernel_rfl) (fun _ _ _ h => h) (by kernel_rfl) (fun _ => by kernel_rfl) ?_ ?_
        rotate_left
        · intro w' hS
          go_simp
          try with_reducible rfl
        refine anyS_one (i := 22) (by kernel_rfl) rfl (keepC5 HB9.out HI.out) (fun K hK => ?_)
        go_simp
        gi_wp2_with ((refine ⟨trivial, ?_⟩; gi_at_call 77; refine CallsIn.mono (F := Fence.wide) (callsIn_wide.2 (HA.out _ HB9.out)) ?_; rintro e w10 ⟨rfl, hb10⟩; have HB10 := Lib.hid (stepB HB9.out hb10); clear hb10; dsimp only))
        refine anyS_take (i := 23) (v := ?_) (by kernel_rfl) rfl (by kernel_rfl) (by kernel_rfl) (by kernel_rfl) (fun _ _ _ h => h) (by kernel_rfl) (fun _ => by kernel_rfl) ?_ ?_
        rotate_left
        · intro w' hS
          go_simp
          try with_reducible rfl
        refine anyS_take (i := 24) (v := ?_) (by kernel_rfl) rfl (by kernel_rfl) (by kernel_rfl) (by kernel_rfl) (fun _ _ _ h => h) (by kernel_rfl) (fun _ => by kernel_rfl) ?_ ?_
        rotate_left
        · intro w' hS
          go_simp
          try with_reducible rfl
        refine anyS_done (by kernel_rfl) (keepC5 HB10.out HI.out) ?_ _
        refine NoPanic.normal ?_
        go_wp2
        go_ret
        exact ⟨rfl, g, HBD.out.later HB10.out, HTU.out.trans (TurnedB.of_below HB10.out), rfl⟩
end Go.Proofs.YtookicopjphmnaaGreat
namespace Go.Proofs.YtookicopjphmnaaGreat
open Go.RowKit Go.Maps
attribute [local go_sem] Oper.semAt_some

def placeI (t : Crd.TermL) (i : Int) : Int := if t.on = 0 then 0 else i
set_option maxRecDepth 100000 in
set_option maxHeartbeats 2000000 in
theorem placeOf_any11 (t : Crd.TermL) (i : Int) (w : World) : Calls Tryz.prog 123 #[Crd.tval t, .int .i64 i] w (RetV w (.int .i64 (placeI t i))) := by
  obtain ⟨op, n, on⟩ := t
  unfold Crd.tval placeI
  dsimp only
  have hb0 := below_new w (.cells #[.int .i64 op, .int .i64 n, .int .i64 on] 58)
  by_cases h : on = 0
  · subst h
    rw [if_pos rfl]
    go_enter Tryz.func123, Tryz.ntmps123
    go_wp2
    go_ret
    exact ⟨rfl, hb0⟩
  · have e : (on == 0) = false := beq_eq_false_iff_ne.2 h
    rw [if_neg h]
    clear h
    go_enter Tryz.func123, Tryz.ntmps123
    go_wp2
    go_ret
    exact ⟨rfl, hb0⟩
/-- Terms, one by one: what they make of a board, and how many are done. -/
def runAll (B : BoardL) (seat i : Int) (l : List Crd.TermL) : BoardL × Nat := l.foldl (fun p t => (doB p.1 seat t (placeI t i), if canB p.1 seat t (placeI t i) then p.2 + 1 else p.2)) (B, 0)
theorem runAll_snoc (B : BoardL) (seat i : Int) (l : List Crd.TermL) (t : Crd.TermL) : runAll B seat i (l ++ [t]) = (doB (runAll B seat i l).1 seat t (placeI t i), if canB (runAll B seat i l).1 seat t (placeI t i) then (runAll B seat i l).2 + 1 else (runAll B seat i l).2) := by
  unfold runAll
  rw [List.foldl_append]
  rfl
theorem runAll_le (B : BoardL) (seat i : Int) (l : List Crd.TermL) : (runAll B seat i l).2 ≤ l.length := by
  have h : ∀ (l : List Crd.TermL) (p : BoardL × Nat), (l.foldl (fun p t => (doB p.1 seat t (placeI t i), if canB p.1 seat t (placeI t i) then p.2 + 1 else p.2)) p).2 ≤ p.2 + l.length := fun l => by
    induction l with
    | nil => intro p; simp
    | cons t l ih =>
      intro p
      rw [List.foldl_cons, List.length_cons]
      refine Nat.le_trans (ih _) ?_
      dsimp only
      split <;> omega
  have := h l (B, 0)
  simpa [runAll] using this
theorem take_snoc {α : Type} (l : List α) (k : Nat) (h : k < l.length) : l.take (k + 1) = l.take k ++ [l[k]] := List.take_succ_eq_append_getElem h
theorem keepC3 {w w' : World} {a0 a1 a2 : Addr} {v0 v1 v2 : Value} (hb : Below w.heap.size w w') (h : w.cell? a0 = some v0 ∧ w.cell? a1 = some v1 ∧ w.cell? a2 = some v2) :
    w'.cell? a0 = some v0 ∧ w'.cell? a1 = some v1 ∧ w'.cell? a2 = some v2 := ⟨cell_stays hb h.1, cell_stays hb h.2.1, cell_stays hb h.2.2⟩
set_option maxRecDepth 100000 in
set_option maxHeartbeats 8000000 in
theorem all11_any {w : World} {lo : Nat} {g : GhostB} {B : BoardL} {u : Value} {l : List Crd.TermL} (h : BoardAt w lo g B) (hu : ∀ w' g', TurnedB w w' g g' → Crd.TermsIs w' u l) (hl : l.length ≤ 1000) (hul : ∃ xa xc, u = .slice xa l.length xc) (seat i : Int) :
    Calls Tryz.prog 93 #[.pointer (some ⟨g.q, 0, none⟩), .int .i64 seat, .int .i64 i, u] w (RetBd w lo g (runAll B seat i l).1 (.int .i64 (runAll B seat i l).2)) := by
  obtain ⟨xa, xc, rfl⟩ := hul
  have HB := Lib.hid h
  have HU := Lib.hid hu
  have HLE := Lib.hid (fun (k : Nat) => runAll_le B seat i (l.take k))
  clear h hu
  go_enter Tryz.func93, Tryz.ntmps93
  go_wp2
  go_loopw [9, 14] (fun d j wr => ∃ (k : Nat) (g' : GhostB), k ≤ l.length ∧ d = .int .i64 ((runAll B seat i (l.take k)).2 : Int) ∧ j = .int .i64 (k : Int) ∧ Hid (BoardAt wr lo g' (runAll B seat i (l.take k)).1) ∧ Hid (TurnedB w wr g g') ∧ g'.q = g.q) (fun _ j _ => l.length - (intOf j).toNat)
  case atStart => exact ⟨0, g, Nat.zero_le _, rfl, rfl, HB, Lib.hid (TurnedB.of_below (Below.refl _ _)), rfl⟩
  case round =>
    obtain ⟨k, g', hk, rfl, rfl, HB', HT', hq⟩ := hrel
    by_cases hlt : k < l.length
    · have d0 : decide ((k : Int) < l.length) = true := decide_eq_true (by omega)
      obtain ⟨bb, off, rfl, t0, t1, t2⟩ := Crd.terms_at (HU.out wr g' HT'.out) k hlt
      have HSN := Lib.hid (runAll_snoc B seat i (l.take k) l[k])
      rw [← take_snoc l k hlt] at HSN
      obtain ⟨x, hx⟩ : ∃ x, l[k] = x := ⟨_, rfl⟩
      rw [hx] at t0 t1 t2 HSN
      obtain ⟨P, hP⟩ : ∃ P, runAll B seat i (l.take k) = P := ⟨_, rfl⟩
      have hle := HLE.out k
      rw [hP] at HSN HB' hle ⊢
      obtain ⟨BP, c⟩ := P
      dsimp only at HSN HB' hle ⊢
      have hc1000 : c ≤ 1000 := by simp at hle; omega
      obtain ⟨op, n, on⟩ := x
      dsimp only at t0 t1 t2
      obtain ⟨W2, hW2⟩ : ∃ W2, wr.alloc (.cells #[.int .i64 op, .int .i64 n, .int .i64 on] 58) = W2 := ⟨_, rfl⟩
      have hb0 := below_new wr (.cells #[.int .i64 op, .int .i64 n, .int .i64 on] 58)
      have hkk := fun j => cell_of_row (wr.alloc (.cells #[.int .i64 op, .int .i64 n, .int .i64 on] 58)) wr.heap.size j _ _ _ (heap_alloc_new wr (.cells #[.int .i64 op, .int .i64 n, .int .i64 on] 58))
      have k0 := hkk 0
      have k1 := hkk 1
      have k2 := hkk 2
      rw [hW2] at k0 k1 k2 hb0
      go_upto_region 5 with fail
      obtain ⟨q, hqq⟩ : ∃ q, wr.heap.size = q := ⟨_, rfl⟩
      simp only [hqq]
      rw [hqq] at k0 k1 k2
      have HI := Lib.hid (show W2.cell? ⟨q, 0, none⟩ = some (.int .i64 op) ∧ W2.cell? ⟨q, 1, none⟩ = some (.int .i64 n) ∧ W2.cell? ⟨q, 2, none⟩ = some (.int .i64 on) from ⟨k0, k1, k2⟩)
      have HTU := Lib.hid (HT'.out.trans (TurnedB.of_below (g := g') hb0))
      have HPL := Lib.hid (fun (w' : World) => placeOf_any11 ⟨op, n, on⟩ i w')
      have HDO := Lib.hid (fun (w' : World) (hb : Below W2.heap.size W2 w') => do_any ((HB'.out.later hb0).later hb) seat ⟨op, n, on⟩ (placeI ⟨op, n, on⟩ i))
      obtain ⟨pl, hpl⟩ : ∃ pl, placeI ⟨op, n, on⟩ i = pl := ⟨_, rfl⟩
      rw [hpl] at HPL HDO HSN
      obtain ⟨cb, hcb⟩ : ∃ cb, canB BP seat ⟨op, n, on⟩ pl = cb := ⟨_, rfl⟩
      rw [hcb] at HDO HSN
      unfold Crd.tval at HPL HDO
      dsimp only at HPL HDO
      rw [hq] at HDO
      clear hb0 k0 k1 k2 hkk hqq hW2 t0 t1 t2 hx hP hpl hcb
      refine wp_region_noPanic ?_
      refine (wpIn_wide (n := 9)).1 ?_
      refine wpIn_region_any (by kernel_rfl) ?_
      change wpAnyIn _ _ _ _ _ _ _ _ _ (World.drew _)
      refine anyC.any (c := 6) (S := fun w' => w'.cell? ⟨q, 0, none⟩ = some (.int .i64 op) ∧ w'.cell? ⟨q, 1, none⟩ = some (.int .i64 n) ∧ w'.cell? ⟨q, 2, none⟩ = some (.int .i64 on)) ?_
      refine anyC_take [6] (i := 0) (v := ?_) (by decide) (by decide) (by kernel_rfl) (by kernel_rfl) (by kernel_rfl) (by kernel_rfl) rfl (by kernel_rfl) (by kernel_rfl) (by kernel_rfl) (fun _ _ _ h => h) (by rfl) (fun _ => rfl) ?_ ?_
      rotate_left
      · intro w' hS
        go_simp
        try with_reducible rfl
      refine anyC_take [6] (i := 1) (v := ?_) (by decide) (by decide) (by kernel_rfl) (by kernel_rfl) (by kernel_rfl) (by kernel_rfl) rfl (by kernel_rfl) (by kernel_rfl) (by kernel_rfl) (fun _ _ _ h => h) (by rfl) (fun _ => rfl) ?_ ?_
      rotate_left
      · intro w' hS
        go_simp
        try with_reducible rfl
      refine anyC_take [6] (i := 2) (v := ?_) (by decide) (by decide) (by kernel_rfl) (by kernel_rfl) (by kernel_rfl) (by kernel_rfl) rfl (by kernel_rfl) (by kernel_rfl) (by kernel_rfl) (fun _ _ _ h => h) (by rfl) (fun _ => rfl) ?_ ?_
      rotate_left
      · intro w' hS
        obtain ⟨s0, s1, s2⟩ := hS
        go_simp
        try with_reducible rfl
      refine anyC_take [5, 6] (i := 3) (v := ?_) (by decide) (by decide) (by kernel_rfl) (by kernel_rfl) (by kernel_rfl) (by kernel_rfl) rfl (by kernel_rfl) (by kernel_rfl) (by kernel_rfl) (fun _ _ _ h => h) (by rfl) (fun _ => rfl) ?_ ?_
      rotate_left
      · intro w' hS
        obtain ⟨s0, s1, s2⟩ := hS
        go_simp
        try with_reducible rfl
      refine anyC_take [5, 6] (i := 4) (v := ?_) (by decide) (by decide) (by kernel_rfl) (by kernel_rfl) (by kernel_rfl) (by kernel_rfl) rfl (by kernel_rfl) (by kernel_rfl) (by kernel_rfl) (fun _ _ _ h => h) (by rfl) (fun _ => rfl) ?_ ?_
      rotate_left
      · intro w' hS
        go_simp
        try with_reducible rfl
      refine anyC_one (i := 5) (by kernel_rfl) rfl (fun _ => keepC3 (Below.refl W2.heap.size W2).drew HI.out) (fun K hK => ?_)
      go_simp
      gi_wp2_with ((refine ⟨trivial, ?_⟩; gi_at_call 123; refine CallsIn.mono (F := Fence.wide) (callsIn_wide.2 (HPL.out _)) ?_; rintro e w9 ⟨rfl, hb9⟩; have HB9 := Lib.hid (stepB (Below.refl W2.heap.size W2).drew hb9); clear hb9; dsimp only))
      refine anyC_one (i := 6) (by kernel_rfl) rfl (fun _ => keepC3 HB9.out HI.out) (fun K hK => ?_)
      go_simp
      gi_wp2_with ((refine ⟨trivial, ?_⟩; gi_at_call 122; refine CallsIn.mono (F := Fence.wide) (callsIn_wide.2 (HDO.out _ HB9.out)) ?_; rintro e w10 hr; obtain ⟨rfl, g3, hr1, hr2, hr3⟩ := RetBd.of hr (HTU.out.trans (TurnedB.of_below HB9.out)) hq; have HR := Lib.hid (And.intro hr1 (And.intro hr2 hr3)); clear hr hr1 hr2 hr3; dsimp only))
      refine anyC_done (by kernel_rfl) (fun h => absurd ((show Array.getD _ 6 true = true by kernel_rfl).symm.trans h) (by decide)) ?_ _
      refine NoPanic.normal ?_
      cases cb with
      | true =>
        go_wp2
        go_roundw
        case rel => exact ⟨k + 1, g3, by omega, by rw [HSN.out]; first | rfl | go_num, by go_num, Lib.hid (by rw [HSN.out]; exact HR.out.1), Lib.hid HR.out.2.1, HR.out.2.2⟩
        case measure => simp [intOf]; omega
      | false =>
        go_wp2
        go_roundw
        case rel => exact ⟨k + 1, g3, by omega, by rw [HSN.out]; first | rfl | go_num, by go_num, Lib.hid (by rw [HSN.out]; exact HR.out.1), Lib.hid HR.out.2.1, HR.out.2.2⟩
        case measure => simp [intOf]; omega
    · obtain rfl : k = l.length := by omega
      have HFT := Lib.hid (List.take_length (l := l))
      go_wp2
      go_ret
      rw [HFT.out] at HB' ⊢
      exact ⟨rfl, g', HB'.out, HT'.out, hq⟩
end Go.Proofs.YtookicopjphmnaaGreat
