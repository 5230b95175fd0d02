/- The law TeamPlays (layer 9), walked. -/
import Derived.Test.YtbiomffjmajlgaaTq
import Derived.Test.YtbiomffjmajlgaaTm
import Derived.Test.YtbiomffjmajlgaaTr
import Derived.Laws.OwnMore
import Derived.Test.YtbiomffjmajlgaaTo
import Derived.Test.YtbiomffjmajlgaaOs
import Derived.Test.YtbiomffjmajlgaaOt
import Derived.IntWalk
import Derived.Deep.CutRange
namespace Go.Proofs.Ytbiomffjmajlgaa
open Go.RowKit
attribute [local go_sem] Oper.semAt_some

theorem info_bool : (Try.prog.info? 4).map (fun i => (i.zero, i.size, i.bytes)) = some (some (.bool false), 1, 1) := by kernel_rfl
theorem make_int (N : Nat) (h : N ≤ 4) (u : World) : (Instr.makeSlice 22 (.int .i64 (N : Int)) (.int .i64 (N : Int))).run Try.prog u = .ok (.slice (some ⟨u.heap.size, 0, none⟩) N N) (u.alloc (.cells (madeCells #[.int .i64 0] N) 3)) := by
  obtain ⟨i0, hi, hz0, hz1, hz2⟩ := info_parts info_int
  have h := run_make (P := Try.prog) u 22 3 i0 (.int .i64 0) Try.underlying22 hi hz0 .i64 .i64 (N : Int) (N : Int) (by omega) (Int.le_refl _) (by rw [hz2]; omega) (by omega)
  simpa [hz1, Value.cells] using h
theorem make_bool (N : Nat) (h : N ≤ 4) (u : World) : (Instr.makeSlice 37 (.int .i64 (N : Int)) (.int .i64 (N : Int))).run Try.prog u = .ok (.slice (some ⟨u.heap.size, 0, none⟩) N N) (u.alloc (.cells (madeCells #[.bool false] N) 4)) := by
  obtain ⟨i0, hi, hz0, hz1, hz2⟩ := info_parts info_bool
  have h := run_make (P := Try.prog) u 37 4 i0 (.bool false) Try.underlying37 hi hz0 .i64 .i64 (N : Int) (N : Int) (by omega) (Int.le_refl _) (by rw [hz2]; omega) (by omega)
  simpa [hz1, Value.cells] using h
theorem made_row {W : World} {t : TypeId} {g N : Nat} {z : Value} (h : W.heap[g]? = some (.cells (madeCells #[z] N) t (0, 0))) : RowIn W t g (List.replicate N z) := by
  refine ⟨_, h, ?_⟩
  have e : (madeCells #[z] N).toList = List.replicate N z := by simp [madeCells, Nat.mod_one, List.eq_replicate_iff]
  rw [List.length_replicate, e, List.take_of_length_le (by simp)]
/-- What the two made lists are. -/
theorem made2 {W : World} {t1 t2 : TypeId} {N : Nat} {z1 z2 : Value} : RowIn ((W.alloc (.cells (madeCells #[z1] N) t1)).alloc (.cells (madeCells #[z2] N) t2)).drew t1 W.heap.size (List.replicate N z1) ∧ RowIn ((W.alloc (.cells (madeCells #[z1] N) t1)).alloc (.cells (madeCells #[z2] N) t2)).drew t2 (W.heap.size + 1) (List.replicate N z2) :=
  ⟨made_row (lits2 W _ _).1, made_row (lits2 W _ _).2.1⟩
theorem sh_new {S L : List Int} : (newT S L).sh.length = L.length := by simp [newT]
theorem lifes_new {S L : List Int} : lifes (newT S L) = L := by simp [lifes, newT, shOf, Function.comp_def]
theorem poisons_new {S L : List Int} : poisons (newT S L) = List.replicate L.length 0 := by simp [poisons, newT, shOf, Function.comp_def, List.map_const']
theorem flags_new {S L : List Int} : flags (newT S L) = List.replicate L.length false := by simp [flags, newT, shOf, Function.comp_def, List.map_const']
/-- The marks that ranges have left. -/
def Marks (B : Nat) (w : World) (df : List Deferred) : Prop := ∃ Ds : List Nat, df = Ds.map (fun D => { target := .collected D, args := #[] }) ∧ Ds.Nodup ∧ (∀ D ∈ Ds, B ≤ D) ∧ MarksO w Ds
theorem Marks.later {B : Nat} {w w' : World} {df : List Deferred} (h : Marks B w df) (hb : Below w.heap.size w w') : Marks B w' df := by
  obtain ⟨Ds, h1, h2, h3, h4⟩ := h
  exact ⟨Ds, h1, h2, h3, fun D hD => (hb.block D (h4.lt hD)).trans (h4 D hD)⟩
theorem Marks.grown {B g : Nat} {w w' : World} {df : List Deferred} (h : Marks B w df) (hg : w.grownBy w' (some g)) (hc : ∃ o, w.heap[g]? = some o ∧ o.isCells = true) : Marks B w' df := by
  obtain ⟨Ds, h1, h2, h3, h4⟩ := h
  refine ⟨Ds, h1, h2, h3, fun D hD => (hg.block D (h4.lt hD) (fun e => ?_)).trans (h4 D hD)⟩
  obtain ⟨o, ho, hc⟩ := hc
  have e : D = g := Option.some.inj e
  rw [← e, h4 D hD] at ho
  cases ho
  cases hc
theorem Marks.leave {w w0 : World} {fn : Func} {tmps : Array Value} {df : List Deferred} (h : Marks w0.heap.size w df) (hb : Below w0.heap.size w0 w) (hr : ∀ W', (results fn tmps).run Try.prog W' = .ok (.bool true) W') : LeavesInM Fence.wide 9 Try.prog fn tmps (RetV w0 (.bool true)) df .returning w := by
  obtain ⟨Ds, rfl, h2, h3, h4⟩ := h
  exact leaves_marksO (B := w0.heap.size) Ds _ h2 h3 h4 (fun W' hb' hc => ⟨_, hr W', rfl, hb.trans hb'⟩)
/-- What a call makes of the teams. -/
def stepT (T : TeamL) (k a m : Int) : TeamL := if k = 0 then gainT T a m else if k = 1 then sickT T a m else if k = 2 then loseT T a else T
/-- The state within a round: the teams T' and the law's lists, and the copy of the teams as they were. -/
structure StAt (w W : World) (lo b s r gl gp gb N lo' b' s' r' : Nat) (df : List Deferred) (T T' : TeamL) : Prop where
  play : PlayAt W lo b s r gl gp gb N T'
  was : TeamAt W lo' b' s' r' T
  bel : Below w.heap.size w W
  mks : Marks w.heap.size W df
  low : w.heap.size ≤ lo
  far : ∀ g, (g = r ∨ g = gl ∨ g = gp ∨ g = gb) → b' ≠ g ∧ s' ≠ g ∧ r' ≠ g
theorem PlayAt.block {W : World} {lo b s r gl gp gb N : Nat} {T : TeamL} (h : PlayAt W lo b s r gl gp gb N T) (g : Nat) (hg : g = r ∨ g = gl ∨ g = gp ∨ g = gb) : lo ≤ g ∧ ∃ o, W.heap[g]? = some o ∧ o.isCells = true := by
  rcases hg with rfl | rfl | rfl | rfl
  · obtain ⟨_, h1, _⟩ := h.t.rw; exact ⟨h.t.lr, _, h1, rfl⟩
  · obtain ⟨_, h1, _⟩ := h.lf; exact ⟨h.lo3.1, _, h1, rfl⟩
  · obtain ⟨_, h1, _⟩ := h.po; exact ⟨h.lo3.2.1, _, h1, rfl⟩
  · obtain ⟨_, h1, _⟩ := h.ls; exact ⟨h.lo3.2.2, _, h1, rfl⟩
theorem StAt.step {w W W' : World} {lo b s r gl gp gb N lo' b' s' r' : Nat} {df : List Deferred} {T T' T'' : TeamL} (h : StAt w W lo b s r gl gp gb N lo' b' s' r' df T T') (g : Nat) (hg : g = r ∨ g = gl ∨ g = gp ∨ g = gb) (hgr : W.grownBy W' (some g)) (hp : PlayAt W' lo b s r gl gp gb N T'') :
    StAt w W' lo b s r gl gp gb N lo' b' s' r' df T T'' := by
  obtain ⟨h1, h2⟩ := h.play.block g hg
  obtain ⟨f1, f2, f3⟩ := h.far g hg
  exact ⟨hp, h.was.grown hgr f1 f2 f3, grown_to h.bel hgr (Nat.le_trans h.low h1), h.mks.grown hgr h2, h.low, h.far⟩
theorem StAt.step2 {w W W1 W' : World} {lo b s r gl gp gb N lo' b' s' r' : Nat} {df : List Deferred} {T T' T'' : TeamL} (h : StAt w W lo b s r gl gp gb N lo' b' s' r' df T T') (g : Nat) (hg : g = gl ∨ g = gp ∨ g = gb) (hgr : W.grownBy W1 (some r)) (hgr2 : W1.grownBy W' (some g)) (hp : PlayAt W' lo b s r gl gp gb N T'') :
    StAt w W' lo b s r gl gp gb N lo' b' s' r' df T T'' := by
  obtain ⟨h1, h2⟩ := h.play.block r (.inl rfl)
  obtain ⟨h3, o, h4, h5⟩ := h.play.block g (.inr hg)
  obtain ⟨f1, f2, f3⟩ := h.far r (.inl rfl)
  obtain ⟨f4, f5, f6⟩ := h.far g (.inr hg)
  have hgne : g ≠ r := by
    obtain ⟨_, _, f7, f8, f9⟩ := h.play.far
    rcases hg with rfl | rfl | rfl
    · exact Ne.symm f7
    · exact Ne.symm f8
    · exact Ne.symm f9
  have hl := (Array.getElem?_eq_some_iff.1 h4).1
  exact ⟨hp, (h.was.grown hgr f1 f2 f3).grown hgr2 f4 f5 f6, grown_to (grown_to h.bel hgr (Nat.le_trans h.low h1)) hgr2 (Nat.le_trans h.low h3), (h.mks.grown hgr h2).grown hgr2 ⟨o, (hgr.block g hl (by simpa using hgne)).trans h4, h5⟩, h.low, h.far⟩
theorem StAt.later {w W W' : World} {lo b s r gl gp gb N lo' b' s' r' : Nat} {df : List Deferred} {T T' : TeamL} (h : StAt w W lo b s r gl gp gb N lo' b' s' r' df T T') (hb : Below W.heap.size W W') : StAt w W' lo b s r gl gp gb N lo' b' s' r' df T T' :=
  ⟨h.play.later hb, h.was.later hb, stepB h.bel hb, h.mks.later hb, h.low, h.far⟩
theorem StAt.start {w W W' : World} {lo b s r gl gp gb N b' s' r' : Nat} {df : List Deferred} {T : TeamL} (h : PlayAt W lo b s r gl gp gb N T) (hb : Below w.heap.size w W) (hm : Marks w.heap.size W df) (hlo : w.heap.size ≤ lo) (hx : Below W.heap.size W W') (hw : TeamAt W' W.heap.size b' s' r' T) :
    StAt w W' lo b s r gl gp gb N W.heap.size b' s' r' df T T := by
  have h1 := h.t.ltr
  have h2 := h.lf.lt
  have h3 := h.po.lt
  have h4 := h.ls.lt
  have h5 := hw.lb
  have h6 := hw.ls
  have h7 := hw.lr
  exact ⟨h.later hx, hw, stepB hb hx, hm.later hx, hlo, fun g hg => by rcases hg with rfl | rfl | rfl | rfl <;> refine ⟨?_, ?_, ?_⟩ <;> omega⟩
/-- What a region that draws loads, and the cell that it writes at its end. -/
def Held4 (A w : World) (a1 a2 a3 : Addr) (v1 v2 v3 : Value) : Prop := Below A.heap.size A w ∧ w.cell? a1 = some v1 ∧ w.cell? a2 = some v2 ∧ w.cell? a3 = some v3 ∧ (a3.block < w.heap.size ∧ w.frozen? a3 = false)
theorem Held4.later {A w w' : World} {a1 a2 a3 : Addr} {v1 v2 v3 : Value} (hb : Below w.heap.size w w') (h : Held4 A w a1 a2 a3 v1 v2 v3) : Held4 A w' a1 a2 a3 v1 v2 v3 :=
  ⟨stepB h.1 hb, cell_stays hb h.2.1, cell_stays hb h.2.2.1, cell_stays hb h.2.2.2.1, Nat.lt_of_lt_of_le h.2.2.2.2.1 hb.size, by rw [World.frozen?_of_block (hb.block a3.block h.2.2.2.2.1)]; exact h.2.2.2.2.2⟩
theorem filter_at (p : Int → Bool) (L : List Int) (j : Nat) (hj : j < L.length) : p L[j] = true → ∃ h : ((L.take j).filter p).length < (L.filter p).length, (L.filter p)[((L.take j).filter p).length] = L[j] := by
  intro hp
  have e : L.filter p = (L.take j).filter p ++ (L[j] :: (L.drop (j + 1)).filter p) := by
    conv => lhs; rw [← List.take_append_drop j L, List.filter_append, List.drop_eq_getElem_cons hj]
    rw [List.filter_cons_of_pos hp]
  have hl : ((L.take j).filter p).length < (L.filter p).length := by rw [e]; simp
  refine ⟨hl, ?_⟩
  have h2 : (L.filter p)[((L.take j).filter p).length]? = some L[j] := by rw [e]; simp
  have h3 := List.getElem?_eq_getElem hl
  rw [h2] at h3
  exact (Option.some.inj h3).symm
def lifesP : List Int := [20, 30, 40, 50]
set_option maxRecDepth 100000 in
set_option maxHeartbeats 64000000 in
theorem teamPlays_walk {n : Nat} {v u : Value} {S : List Int} {l : List OpL9} {w : World} (hv : IntsAt w v S) (hS : S.length ≤ 9223372036854775807) (hn : n < 256) (hu : OpsAt9 w u l) (hl : l.length ≤ 9223372036854775807) :
    Calls Try.prog 4 #[v, .int .u8 n, u] w (RetV w (.bool true)) := by
  have HV := Lib.hid hv
  have HU := Lib.hid hu
  obtain ⟨va, vc, rfl⟩ := hv.form
  obtain ⟨ua, uc, rfl⟩ : ∃ xa xc, u = .slice xa l.length xc := by
    rcases hu with ⟨xa, cap, rfl, rfl⟩ | ⟨b, off, cap, rfl, _⟩
    · exact ⟨xa, cap, rfl⟩
    · exact ⟨_, cap, rfl⟩
  obtain ⟨N, hN⟩ : ∃ N, 1 + n % 4 = N := ⟨_, rfl⟩
  have hN4 : 1 ≤ N ∧ N ≤ 4 := by omega
  have hNI : 1 + (n : Int) % 4 = N := by omega
  clear hv hu
  refine (callsIn_wide (n := 9)).1 ?_
  refine callsIn_of_wp_marks Try.func4 rfl trivial ?_ rfl
  simp only [Try.ntmps4, List.size_toArray, List.length_cons, List.length_nil, Nat.reduceAdd, Nat.reduceSub, Array.replicate_succ, Array.replicate_zero, List.push_toArray, List.append_toArray, List.nil_append, List.cons_append]
  refine wpIn_wide.2 ?_
  go_wp2_with fail
  refine (awake9_any _).mono ?_
  rintro e w1 ⟨rfl, hb1⟩
  have HB1 := Lib.hid hb1
  clear hb1
  have HLL := Lib.hid (show (lifesP.take N).length = N by simp [lifesP]; omega)
  have hlit := lits_take (w1.alloc (.cells #[.int .i64 20, .int .i64 30, .int .i64 40, .int .i64 50] 3)) w1.heap.size lifesP N (by simp [lifesP]; omega) (heap_alloc_new w1 _) 4
  have HLI := Lib.hid hlit
  have HB2 := Lib.hid (below_alloc2 HB1.out (.cells #[.int .i64 20, .int .i64 30, .int .i64 40, .int .i64 50] 3))
  obtain ⟨z, hz⟩ : ∃ z : Bool, z = true ↔ MayP S (lifesP.take N) := by
    by_cases h : MayP S (lifesP.take N)
    · exact ⟨true, by simp [h]⟩
    · exact ⟨false, by simp [h]⟩
  have HMAY := Lib.hid (may9_any (HV.out.later HB2.out) hlit hS (by rw [HLL.out]; omega) hz)
  have HNEW := Lib.hid (new9_any (HV.out.later HB2.out) hlit hS (by rw [HLL.out]; omega) hz)
  have HZ := Lib.hid hz
  clear hlit hz
  by_cases hlong : l.length ≤ 60
  case neg =>
    have d0 : decide ((60 : Int) < l.length) = true := decide_eq_true (by omega)
    go_wp2
    exact ⟨_, results_tmp (t := 6) rfl _ _ _, rfl, HB2.out⟩
  have d0 : decide ((60 : Int) < l.length) = false := decide_eq_false (by omega)
  go_wp2_with fail
  refine HMAY.out.mono ?_
  rintro e w3 ⟨rfl, rfl⟩
  cases z with
  | false =>
    go_wp2
    exact ⟨_, results_tmp (t := 6) rfl _ _ _, rfl, HB2.out⟩
  | true =>
    obtain ⟨w2, hw2⟩ : ∃ w2, w1.alloc (.cells #[.int .i64 20, .int .i64 30, .int .i64 40, .int .i64 50] 3) = w2 := ⟨_, rfl⟩
    obtain ⟨g0, hg0⟩ : ∃ g0, w1.heap.size = g0 := ⟨_, rfl⟩
    rw [hw2, hg0] at HLI HNEW
    rw [hw2] at HB2
    simp only [hw2, hg0]
    clear HMAY hw2 hg0
    go_wp2_with fail
    refine HNEW.out.mono ?_
    rintro e w4 ⟨hyes, _, hb4⟩
    obtain ⟨b, s, r, rfl, ht⟩ := hyes rfl
    have HT4 := Lib.hid ht
    have HB4 := Lib.hid (stepB HB2.out hb4)
    have HLI4 := Lib.hid (HLI.out.later hb4)
    have HMP := Lib.hid (show MayP S (lifesP.take N) by have := HZ.out; simpa using this)
    have HLO := Lib.hid HB2.out.size
    clear hyes ht hb4 HNEW HZ HLI
    have h24 : w2.heap.size ≤ w4.heap.size := by have := HT4.out.lb; have := HT4.out.lt; omega
    have H24 := Lib.hid h24
    clear h24
    go_wp2_with (at_builtin; refine wpList_append_ints rfl _ _ rfl rfl w4.heap.size (.slice (some ⟨w4.heap.size, 0, none⟩) 0 0) 0 [] rfl (own_empty1 rfl (Nat.le_refl _)) (some ⟨g0, 0, none⟩) N 4 (lifesP.take N) rfl HLL.out.symm (HLI4.out.later (below_new w4 _)) (by rw [HLL.out]; omega) (by simp) ?f)
    case f =>
      intro v' w5 hown hgrow _
      have hb5 : Below w4.heap.size w4 w5 := (below_new w4 _).grown hgrow (by simp) (fun c e => by have e1 : w4.heap.size = c := Option.some.inj e; omega)
      rw [show min N lifesP.length = N by simp [lifesP]; omega] at hown
      obtain ⟨gl, cap, rfl, hgl, hrow⟩ := own_rowIn hown (by omega)
      have HRL := Lib.hid hrow
      have HGL := Lib.hid hgl
      have HB5 := Lib.hid hb5
      clear hown hgrow hb5 hrow hgl
      go_upto_region 11 with fail
      go_cut [11, 12] from 57 to 60 (fun s11 s12 wx => ∃ gp gb : Nat, s11 = .slice (some ⟨gp, 0, none⟩) N N ∧ s12 = .slice (some ⟨gb, 0, none⟩) N N ∧ Hid (RowIn wx 3 gp (intsV (List.replicate N 0)) ∧ RowIn wx 4 gb (boolsV (List.replicate N false)) ∧ w5.heap.size ≤ gp ∧ w5.heap.size ≤ gb ∧ gp ≠ gb ∧ Below w5.heap.size w5 wx))
      case first =>
        have hm1 := make_int N hN4.2
        have hm2 := make_bool N hN4.2
        go_wp2
        go_region
        · go_wp2
          go_meet
          case rel => exact ⟨_, _, rfl, rfl, Lib.hid ⟨by simpa [intsV] using (made2 (W := w5)).1, by simpa [boolsV] using (made2 (W := w5)).2, Nat.le_refl _, Nat.le_succ _, by omega, (lits2 w5 _ _).2.2⟩⟩
        · go_wp2
          go_meet
          case rel => exact ⟨_, _, rfl, rfl, Lib.hid ⟨by simpa [intsV] using (made2 (W := w5)).2, by simpa [boolsV] using (made2 (W := w5)).1, Nat.le_succ _, Nat.le_refl _, by omega, (lits2 w5 _ _).2.2⟩⟩
      case rest =>
        obtain ⟨gp, gb, rfl, rfl, HM⟩ := hcut
        have hT4 := HT4.out.later HB5.out
        have hP : PlayAt wc w2.heap.size b s r gl gp gb N (newT S (lifesP.take N)) := by
          obtain ⟨m1, m2, m3, m4, m5, m6⟩ := HM.out
          have l1 := hT4.lt
          have l2 := hT4.sd.1
          have l3 := hT4.ltr
          have l4 := HT4.out.lt
          have l5 := HT4.out.sd.1
          have l6 := HT4.out.ltr
          have l7 := HRL.out.lt
          have l8 := HGL.out
          have l9 := H24.out
          refine ⟨hT4.later m6, by rw [sh_new, HLL.out], ?_, ?_, ?_, ⟨by omega, by omega, by omega⟩, ⟨by omega, by omega, m5⟩, ⟨by omega, by omega, by omega⟩, ⟨by omega, by omega, by omega⟩, by omega, by omega, by omega⟩
          · rw [lifes_new]; exact HRL.out.later m6
          · rw [poisons_new, HLL.out]; exact m1
          · rw [flags_new, HLL.out]; exact m2
        have HP := Lib.hid hP
        have HBC := Lib.hid (stepB HB4.out (HB5.out.trans (HM.out.2.2.2.2.2.mono HB5.out.size)))
        obtain ⟨T0, hT0⟩ : ∃ T0, newT S (lifesP.take N) = T0 := ⟨_, rfl⟩
        rw [hT0] at HP
        clear hP hT4 HM HB5 HB4 HT4 HRL HGL H24 HLI4 hT0
        have HMK : Hid (Marks w.heap.size wc []) := Lib.hid ⟨[], rfl, List.nodup_nil, (fun D h => by cases h), (fun D h => by cases h)⟩
        go_wp2
        refine wp_loop (fun a W => a.tmps.size = 290 ∧ a.tmps.getD 7 undef = .int .i64 N ∧ a.tmps.getD 8 undef = .slice (some ⟨gl, 0, none⟩) N cap ∧ a.tmps.getD 9 undef = .pointer (some ⟨b, 0, none⟩) ∧ a.tmps.getD 11 undef = .slice (some ⟨gp, 0, none⟩) N N ∧ a.tmps.getD 12 undef = .slice (some ⟨gb, 0, none⟩) N N ∧
            a.tmps.getD 61 undef = .slice ua l.length uc ∧ a.tmps.getD 62 undef = .int .i64 l.length ∧ ∃ (k : Nat) (T : TeamL), k ≤ l.length ∧ a.tmps.getD 63 undef = .int .i64 k ∧ Hid (PlayAt W w2.heap.size b s r gl gp gb N T) ∧ Hid (Below w.heap.size w W) ∧ Hid (Marks w.heap.size W a.defers))
          (fun a _ => l.length - (intOf (a.tmps.getD 63 undef)).toNat) ?start ?round
        case start => exact ⟨rfl, rfl, rfl, rfl, rfl, rfl, rfl, rfl, 0, T0, Nat.zero_le _, rfl, HP, HBC, HMK⟩
        case round =>
          clear HP HBC HMK
          rintro ⟨t, df⟩ wr ⟨hsz, h7, h8, h9, h11, h12, h61, h62, k, T, hk, h63, HP, HBR, HMK⟩
          dsimp only at hsz h7 h8 h9 h11 h12 h61 h62 h63 HMK
          rw [arr290 t hsz]
          simp only [h7, h8, h9, h11, h12, h61, h62, h63]
          clear hsz h7 h8 h9 h11 h12 h61 h62 h63
          obtain ⟨fr, hfr⟩ : ∃ fr : Nat → Value, fr = fun i => t.getD i undef := ⟨_, rfl⟩
          have hfr2 : ∀ i, t.getD i undef = fr i := fun i => by rw [hfr]
          simp only [hfr2]
          clear hfr hfr2
          by_cases hlt : k < l.length
          · obtain ⟨ob, oo, rfl, hob, o0, o1, o2⟩ : ∃ ob oo, ua = some ⟨ob, oo, none⟩ ∧ ob < w.heap.size ∧ wr.cell? ⟨ob, oo + k * 3, none⟩ = some (.int .i64 l[k].k) ∧ wr.cell? ⟨ob, oo + k * 3 + 1, none⟩ = some (.int .i64 l[k].a) ∧ wr.cell? ⟨ob, oo + k * 3 + 2, none⟩ = some (.int .i64 l[k].n) := by
              rcases HU.out with ⟨xa, cap, e, e0⟩ | ⟨ob, oo, cap, e, hb, hc⟩
              · subst e0; simp at hlt
              · injection e with e _ _
                obtain ⟨c0, c1, c2⟩ := hc k hlt
                exact ⟨ob, oo, e, hb, (HBR.out.cell (p := ⟨ob, oo + k * 3, none⟩) hb).trans c0, (HBR.out.cell (p := ⟨ob, oo + k * 3 + 1, none⟩) hb).trans c1, (HBR.out.cell (p := ⟨ob, oo + k * 3 + 2, none⟩) hb).trans c2⟩
            obtain ⟨o, ho⟩ : ∃ o, l[k] = o := ⟨_, rfl⟩
            rw [ho] at o0 o1 o2
            obtain ⟨ok, oa, om⟩ := o
            dsimp only at o0 o1 o2
            have p0 : (0 : Int) ≤ k := by omega
            have p1 : (k : Int) < l.length := by omega
            clear ho hob
            go_upto_region 15 with fail
            have hbq := below_new wr (.cells #[.int .i64 ok, .int .i64 oa, .int .i64 om] 39)
            have hcq := heap_alloc_new wr (.cells #[.int .i64 ok, .int .i64 oa, .int .i64 om] 39)
            have HPQ := Lib.hid (HP.out.later hbq)
            have HBQ := Lib.hid (stepB HBR.out hbq)
            have HMQ := Lib.hid (HMK.out.later hbq)
            obtain ⟨wq, hwq⟩ : ∃ wq, wr.alloc (.cells #[.int .i64 ok, .int .i64 oa, .int .i64 om] 39) = wq := ⟨_, rfl⟩
            obtain ⟨q, hq⟩ : ∃ q, wr.heap.size = q := ⟨_, rfl⟩
            have HQN : Hid (∀ g, (g = r ∨ g = gl ∨ g = gp ∨ g = gb) → q ≠ g) := Lib.hid fun g hg => by
              have h1 := HP.out.t.ltr
              have h2 := HP.out.lf.lt
              have h3 := HP.out.po.lt
              have h4 := HP.out.ls.lt
              rcases hg with rfl | rfl | rfl | rfl <;> omega
            simp only [hwq, hq] at HPQ HBQ HMQ hcq ⊢
            have HCQ := Lib.hid hcq
            have c1 : wq.cell? ⟨q, 1, none⟩ = some (.int .i64 oa) := by rw [cell_of_row wq q 1 _ _ _ hcq]; rfl
            clear hbq hwq hq HP HBR HMK o0 o1 o2
            have hin : inL T oa = (decide (0 ≤ oa) && decide (oa < (N : Int))) := by unfold inL; rw [HPQ.out.n]
            go_cut [15] from 67 to 75 (fun s15 wx => s15 = .bool (inL T oa) ∧ wq = wx)
            case first =>
              by_cases h0 : 0 ≤ oa
              · have e0 : decide (0 ≤ oa) = true := decide_eq_true h0
                go_wp2
                go_meet
                case rel => exact ⟨by rw [hin, e0]; rfl, rfl⟩
              · have e0 : decide (0 ≤ oa) = false := decide_eq_false h0
                go_wp2
                go_meet
                case rel => exact ⟨by rw [hin, e0]; rfl, rfl⟩
            case rest =>
            obtain ⟨rfl, rfl⟩ := hcut
            clear c1 hin
            go_wp2_with fail
            refine (tcopy_any HPQ.out.t).mono ?_
            rintro e w16 ⟨b', s', r', rfl, hwas, hb16⟩
            have HST := Lib.hid (StAt.start HPQ.out HBQ.out HMQ.out HLO.out hb16 hwas)
            obtain ⟨lo', hlo'⟩ : ∃ lo', wq.heap.size = lo' := ⟨_, rfl⟩
            rw [hlo'] at HST
            have hcq := (hb16.block q (Array.getElem?_eq_some_iff.1 HCQ.out).1).trans HCQ.out
            have c0 : w16.cell? ⟨q, 0, none⟩ = some (.int .i64 ok) := by rw [cell_of_row w16 q 0 _ _ _ hcq]; rfl
            have c1 : w16.cell? ⟨q, 1, none⟩ = some (.int .i64 oa) := by rw [cell_of_row w16 q 1 _ _ _ hcq]; rfl
            have c2 : w16.cell? ⟨q, 2, none⟩ = some (.int .i64 om) := by rw [cell_of_row w16 q 2 _ _ _ hcq]; rfl
            have HCR := Lib.hid hcq
            clear hwas hb16 hlo' HPQ HBQ HMQ HCQ hcq
            go_upto_block 2 with fail
            go_cut [15] from 80 to 149 (fun s15 wx => s15 = .bool (inL T oa) ∧ Hid (StAt w wx w2.heap.size b s r gl gp gb N lo' b' s' r' df T (stepT T ok oa om)))
            case first =>
              --SW
              --FAST
              by_cases k0 : ok = 0
              · subst k0
                have hg := tgain_any HST.out.play.t oa om
                have hst : stepT T 0 oa om = gainT T oa om := rfl
                cases hb : inL T oa with
                | false =>
                  have e : gainT T oa om = T := by simp [gainT, hb]
                  rw [hb, if_neg (by decide), e] at hg
                  rw [e] at hst
                  have HBB := Lib.hid hb
                  clear hb e
                  go_wp2_with fail
                  refine hg.mono ?_
                  rintro e w17 ⟨rfl, ht17, hg17⟩
                  have HS2 := Lib.hid (HST.out.step r (.inl rfl) hg17 (HST.out.play.out ht17 hg17))
                  clear hg ht17 hg17
                  go_wp2
                  go_meet
                  case rel => exact ⟨by rw [HBB.out], by rw [hst]; exact HS2⟩
                | true =>
                  obtain ⟨a, rfl, ha⟩ := in_nat hb
                  have haN : a < N := by rw [← HST.out.play.n]; exact ha
                  rw [hb, if_pos rfl] at hg
                  have HBB := Lib.hid hb
                  clear hb
                  go_wp2_with fail
                  refine hg.mono ?_
                  rintro e w17 ⟨rfl, ht17, hg17⟩
                  have HT17 := Lib.hid ht17
                  have HG17 := Lib.hid hg17
                  obtain ⟨_, _, hcl, hfz⟩ := HST.out.play.gain a haN om ht17 hg17
                  have hcr := (hg17.block q (Array.getElem?_eq_some_iff.1 HCR.out).1 (by have := HQN.out r (.inl rfl); simpa using this)).trans HCR.out
                  have HI : Hid (Held4 w17 w17 ⟨q, 1, none⟩ ⟨q, 2, none⟩ ⟨gl, a, none⟩ (.int .i64 a) (.int .i64 om) (.int .i64 (shAt T a).life)) := Lib.hid
                    ⟨Below.refl _ _, by rw [cell_of_row w17 q 1 _ _ _ hcr]; rfl, by rw [cell_of_row w17 q 2 _ _ _ hcr]; rfl, hcl, Nat.lt_of_lt_of_le HST.out.play.lf.lt hg17.size, hfz⟩
                  obtain ⟨x, hx⟩ : ∃ x, (shAt T a).life = x := ⟨_, rfl⟩
                  rw [hx] at HI
                  have HX := Lib.hid hx
                  have HAD := Lib.hid (refAdd_any x om)
                  have a0 : (0 : Int) ≤ a := by omega
                  have a1 : (a : Int) < N := by omega
                  have HAN := Lib.hid haN
                  clear hg ht17 hg17 hcl hfz hcr hx c0 c1 c2 ha haN
                  go_upto_region 22 with fail
                  obtain ⟨hi1, hi2, hi3, hi4, hi5⟩ := (Held4.later (Below.refl w17.heap.size w17).drew HI.out)
                  have HSD := Lib.hid (And.intro hi2 (And.intro hi3 hi4))
                  have hfz := hi5.2
                  have hcz := hi4
                  clear hi1 hi2 hi3 hi4 hi5 HI
                  refine wp_region_noPanic ?_
                  refine (wpIn_wide (n := 9)).1 ?_
                  refine wpIn_region_any (by kernel_rfl) ?_
                  change wpAnyIn _ _ _ _ _ _ _ _ _ (World.drew _)
                  refine anyC.any (c := 12) (S := fun w' => w'.cell? ⟨q, 1, none⟩ = some (.int .i64 a) ∧ w'.cell? ⟨q, 2, none⟩ = some (.int .i64 om) ∧ w'.cell? ⟨gl, a, none⟩ = some (.int .i64 x)) ?_
                  refine anyC_take [11, 12] (i := 0) (v := ?_) (by decide) (by decide) (by kernel_rfl) (by kernel_rfl) (by kernel_rfl) (by kernel_rfl) rfl (by kernel_rfl) (by kernel_rfl) (by kernel_rfl) (fun _ _ _ h => h) (by rfl) (fun _ => rfl) ?_ ?_
                  rotate_left
                  · intro w' hS
                    go_simp
                    try with_reducible rfl
                  refine anyC_take [2, 11, 12] (i := 1) (v := ?_) (by decide) (by decide) (by kernel_rfl) (by kernel_rfl) (by kernel_rfl) (by kernel_rfl) rfl (by kernel_rfl) (by kernel_rfl) (by kernel_rfl) (fun _ _ _ h => h) (by rfl) (fun _ => rfl) ?_ ?_
                  rotate_left
                  · intro w' hS
                    go_simp
                    try with_reducible rfl
                  refine anyC_take [11, 12] (i := 2) (v := ?_) (by decide) (by decide) (by kernel_rfl) (by kernel_rfl) (by kernel_rfl) (by kernel_rfl) rfl (by kernel_rfl) (by kernel_rfl) (by kernel_rfl) (fun _ _ _ h => h) (by rfl) (fun _ => rfl) ?_ ?_
                  rotate_left
                  · intro w' hS
                    obtain ⟨f1, f2, f3⟩ := hS
                    go_simp
                    try with_reducible rfl
                  refine anyC_take [6, 7, 10, 12] (i := 3) (v := ?_) (by decide) (by decide) (by kernel_rfl) (by kernel_rfl) (by kernel_rfl) (by kernel_rfl) rfl (by kernel_rfl) (by kernel_rfl) (by kernel_rfl) (fun _ _ _ h => h) (by rfl) (fun _ => rfl) ?_ ?_
                  rotate_left
                  · intro w' hS
                    go_simp
                    try with_reducible rfl
                  refine anyC_take [5, 6, 7, 10, 12] (i := 4) (v := ?_) (by decide) (by decide) (by kernel_rfl) (by kernel_rfl) (by kernel_rfl) (by kernel_rfl) rfl (by kernel_rfl) (by kernel_rfl) (by kernel_rfl) (fun _ _ _ h => h) (by rfl) (fun _ => rfl) ?_ ?_
                  rotate_left
                  · intro w' hS
                    go_simp
                    try with_reducible rfl
                  refine anyC_take [6, 7, 10, 12] (i := 5) (v := ?_) (by decide) (by decide) (by kernel_rfl) (by kernel_rfl) (by kernel_rfl) (by kernel_rfl) rfl (by kernel_rfl) (by kernel_rfl) (by kernel_rfl) (fun _ _ _ h => h) (by rfl) (fun _ => rfl) ?_ ?_
                  rotate_left
                  · intro w' hS
                    obtain ⟨f1, f2, f3⟩ := hS
                    go_simp
                    try with_reducible rfl
                  refine anyC_take [7, 10, 12] (i := 6) (v := ?_) (by decide) (by decide) (by kernel_rfl) (by kernel_rfl) (by kernel_rfl) (by kernel_rfl) rfl (by kernel_rfl) (by kernel_rfl) (by kernel_rfl) (fun _ _ _ h => h) (by rfl) (fun _ => rfl) ?_ ?_
                  rotate_left
                  · intro w' hS
                    go_simp
                    try with_reducible rfl
                  refine anyC_take [10, 12] (i := 7) (v := ?_) (by decide) (by decide) (by kernel_rfl) (by kernel_rfl) (by kernel_rfl) (by kernel_rfl) rfl (by kernel_rfl) (by kernel_rfl) (by kernel_rfl) (fun _ _ _ h => h) (by rfl) (fun _ => rfl) ?_ ?_
                  rotate_left
                  · intro w' hS
                    obtain ⟨f1, f2, f3⟩ := hS
                    go_simp
                    try with_reducible rfl
                  refine anyC_take [9, 10, 12] (i := 8) (v := ?_) (by decide) (by decide) (by kernel_rfl) (by kernel_rfl) (by kernel_rfl) (by kernel_rfl) rfl (by kernel_rfl) (by kernel_rfl) (by kernel_rfl) (fun _ _ _ h => h) (by rfl) (fun _ => rfl) ?_ ?_
                  rotate_left
                  · intro w' hS
                    go_simp
                    try with_reducible rfl
                  refine anyC_take [10, 12] (i := 9) (v := ?_) (by decide) (by decide) (by kernel_rfl) (by kernel_rfl) (by kernel_rfl) (by kernel_rfl) rfl (by kernel_rfl) (by kernel_rfl) (by kernel_rfl) (fun _ _ _ h => h) (by rfl) (fun _ => rfl) ?_ ?_
                  rotate_left
                  · intro w' hS
                    obtain ⟨f1, f2, f3⟩ := hS
                    go_simp
                    try with_reducible rfl
                  refine anyC_one (i := 10) (by kernel_rfl) rfl (fun _ => HSD.out) (fun K hK => ?_)
                  go_simp
                  gi_wp2_with ((refine ⟨trivial, ?_⟩; gi_at_call 24; refine CallsIn.mono (F := Fence.wide) (callsIn_wide.2 (HAD.out _)) ?_; rintro e w18 ⟨rfl, rfl⟩))
                  refine anyC_one (i := 11) (by kernel_rfl) rfl (fun _ => HSD.out) (fun K hK => ?_)
                  go_simp
                  refine hK _ _ ?_
                  clear hK K
                  refine anyC_one (i := 12) (by kernel_rfl) rfl (fun _ => HSD.out) (fun K hK => ?_)
                  go_simp
                  refine hK _ _ ?_
                  clear hK K
                  refine anyC_done (by kernel_rfl) (fun h => absurd ((show Array.getD _ 12 true = true by kernel_rfl).symm.trans h) (by decide)) ?_ _
                  refine NoPanic.normal ?_
                  have HS2 : Hid (StAt w (w17.drew.setCell ⟨gl, a, none⟩ (.int .i64 (addZ x om))) w2.heap.size b s r gl gp gb N lo' b' s' r' df T (stepT T 0 a om)) := Lib.hid (by
                    have hg2 := grown_trans HG17.out (grown_below (b := r) (Below.refl w17.heap.size w17).drew)
                    obtain ⟨h1, h2, _, _⟩ := HST.out.play.gain a HAN.out om (HT17.out.later (Below.refl _ _).drew) hg2
                    rw [hst, ← HX.out]
                    exact HST.out.step2 gl (.inl rfl) hg2 h2 h1)
                  clear hcz hfz HSD
                  go_wp2
                  go_meet
                  case rel => exact ⟨by rw [HBB.out], HS2⟩
              by_cases k1 : ok = 1
              · subst k1
                have hg := tsick_any HST.out.play.t oa om
                have hst : stepT T 1 oa om = sickT T oa om := rfl
                cases hb : inL T oa with
                | false =>
                  have e : sickT T oa om = T := by simp [sickT, hb]
                  rw [hb, if_neg (by decide), e] at hg
                  rw [e] at hst
                  have HBB := Lib.hid hb
                  clear hb e
                  go_wp2_with fail
                  refine hg.mono ?_
                  rintro e w17 ⟨rfl, ht17, hg17⟩
                  have HS2 := Lib.hid (HST.out.step r (.inl rfl) hg17 (HST.out.play.out ht17 hg17))
                  clear hg ht17 hg17
                  go_wp2
                  go_meet
                  case rel => exact ⟨by rw [HBB.out], by rw [hst]; exact HS2⟩
                | true =>
                  obtain ⟨a, rfl, ha⟩ := in_nat hb
                  have haN : a < N := by rw [← HST.out.play.n]; exact ha
                  rw [hb, if_pos rfl] at hg
                  have HBB := Lib.hid hb
                  clear hb
                  go_wp2_with fail
                  refine hg.mono ?_
                  rintro e w17 ⟨rfl, ht17, hg17⟩
                  have HT17 := Lib.hid ht17
                  have HG17 := Lib.hid hg17
                  obtain ⟨_, _, hcl, hfz⟩ := HST.out.play.sick a haN om ht17 hg17
                  have hcr := (hg17.block q (Array.getElem?_eq_some_iff.1 HCR.out).1 (by have := HQN.out r (.inl rfl); simpa using this)).trans HCR.out
                  have HI : Hid (Held4 w17 w17 ⟨q, 1, none⟩ ⟨q, 2, none⟩ ⟨gp, a, none⟩ (.int .i64 a) (.int .i64 om) (.int .i64 (shAt T a).poison)) := Lib.hid
                    ⟨Below.refl _ _, by rw [cell_of_row w17 q 1 _ _ _ hcr]; rfl, by rw [cell_of_row w17 q 2 _ _ _ hcr]; rfl, hcl, Nat.lt_of_lt_of_le HST.out.play.po.lt hg17.size, hfz⟩
                  obtain ⟨x, hx⟩ : ∃ x, (shAt T a).poison = x := ⟨_, rfl⟩
                  rw [hx] at HI
                  have HX := Lib.hid hx
                  have HAD := Lib.hid (refAdd_any x om)
                  have a0 : (0 : Int) ≤ a := by omega
                  have a1 : (a : Int) < N := by omega
                  have HAN := Lib.hid haN
                  clear hg ht17 hg17 hcl hfz hcr hx c0 c1 c2 ha haN
                  go_upto_region 27 with fail
                  obtain ⟨hi1, hi2, hi3, hi4, hi5⟩ := (Held4.later (Below.refl w17.heap.size w17).drew HI.out)
                  have HSD := Lib.hid (And.intro hi2 (And.intro hi3 hi4))
                  have hfz := hi5.2
                  have hcz := hi4
                  clear hi1 hi2 hi3 hi4 hi5 HI
                  refine wp_region_noPanic ?_
                  refine (wpIn_wide (n := 9)).1 ?_
                  refine wpIn_region_any (by kernel_rfl) ?_
                  change wpAnyIn _ _ _ _ _ _ _ _ _ (World.drew _)
                  refine anyC.any (c := 13) (S := fun w' => w'.cell? ⟨q, 1, none⟩ = some (.int .i64 a) ∧ w'.cell? ⟨q, 2, none⟩ = some (.int .i64 om) ∧ w'.cell? ⟨gp, a, none⟩ = some (.int .i64 x)) ?_
                  refine anyC_take [12, 13] (i := 0) (v := ?_) (by decide) (by decide) (by kernel_rfl) (by kernel_rfl) (by kernel_rfl) (by kernel_rfl) rfl (by kernel_rfl) (by kernel_rfl) (by kernel_rfl) (fun _ _ _ h => h) (by rfl) (fun _ => rfl) ?_ ?_
                  rotate_left
                  · intro w' hS
                    go_simp
                    try with_reducible rfl
                  refine anyC_take [2, 12, 13] (i := 1) (v := ?_) (by decide) (by decide) (by kernel_rfl) (by kernel_rfl) (by kernel_rfl) (by kernel_rfl) rfl (by kernel_rfl) (by kernel_rfl) (by kernel_rfl) (fun _ _ _ h => h) (by rfl) (fun _ => rfl) ?_ ?_
                  rotate_left
                  · intro w' hS
                    go_simp
                    try with_reducible rfl
                  refine anyC_take [12, 13] (i := 2) (v := ?_) (by decide) (by decide) (by kernel_rfl) (by kernel_rfl) (by kernel_rfl) (by kernel_rfl) rfl (by kernel_rfl) (by kernel_rfl) (by kernel_rfl) (fun _ _ _ h => h) (by rfl) (fun _ => rfl) ?_ ?_
                  rotate_left
                  · intro w' hS
                    obtain ⟨f1, f2, f3⟩ := hS
                    go_simp
                    try with_reducible rfl
                  refine anyC_take [6, 7, 10, 11, 13] (i := 3) (v := ?_) (by decide) (by decide) (by kernel_rfl) (by kernel_rfl) (by kernel_rfl) (by kernel_rfl) rfl (by kernel_rfl) (by kernel_rfl) (by kernel_rfl) (fun _ _ _ h => h) (by rfl) (fun _ => rfl) ?_ ?_
                  rotate_left
                  · intro w' hS
                    go_simp
                    try with_reducible rfl
                  refine anyC_take [5, 6, 7, 10, 11, 13] (i := 4) (v := ?_) (by decide) (by decide) (by kernel_rfl) (by kernel_rfl) (by kernel_rfl) (by kernel_rfl) rfl (by kernel_rfl) (by kernel_rfl) (by kernel_rfl) (fun _ _ _ h => h) (by rfl) (fun _ => rfl) ?_ ?_
                  rotate_left
                  · intro w' hS
                    go_simp
                    try with_reducible rfl
                  refine anyC_take [6, 7, 10, 11, 13] (i := 5) (v := ?_) (by decide) (by decide) (by kernel_rfl) (by kernel_rfl) (by kernel_rfl) (by kernel_rfl) rfl (by kernel_rfl) (by kernel_rfl) (by kernel_rfl) (fun _ _ _ h => h) (by rfl) (fun _ => rfl) ?_ ?_
                  rotate_left
                  · intro w' hS
                    obtain ⟨f1, f2, f3⟩ := hS
                    go_simp
                    try with_reducible rfl
                  refine anyC_take [7, 10, 11, 13] (i := 6) (v := ?_) (by decide) (by decide) (by kernel_rfl) (by kernel_rfl) (by kernel_rfl) (by kernel_rfl) rfl (by kernel_rfl) (by kernel_rfl) (by kernel_rfl) (fun _ _ _ h => h) (by rfl) (fun _ => rfl) ?_ ?_
                  rotate_left
                  · intro w' hS
                    go_simp
                    try with_reducible rfl
                  refine anyC_take [10, 11, 13] (i := 7) (v := ?_) (by decide) (by decide) (by kernel_rfl) (by kernel_rfl) (by kernel_rfl) (by kernel_rfl) rfl (by kernel_rfl) (by kernel_rfl) (by kernel_rfl) (fun _ _ _ h => h) (by rfl) (fun _ => rfl) ?_ ?_
                  rotate_left
                  · intro w' hS
                    obtain ⟨f1, f2, f3⟩ := hS
                    go_simp
                    try with_reducible rfl
                  refine anyC_take [9, 10, 11, 13] (i := 8) (v := ?_) (by decide) (by decide) (by kernel_rfl) (by kernel_rfl) (by kernel_rfl) (by kernel_rfl) rfl (by kernel_rfl) (by kernel_rfl) (by kernel_rfl) (fun _ _ _ h => h) (by rfl) (fun _ => rfl) ?_ ?_
                  rotate_left
                  · intro w' hS
                    go_simp
                    try with_reducible rfl
                  refine anyC_take [10, 11, 13] (i := 9) (v := ?_) (by decide) (by decide) (by kernel_rfl) (by kernel_rfl) (by kernel_rfl) (by kernel_rfl) rfl (by kernel_rfl) (by kernel_rfl) (by kernel_rfl) (fun _ _ _ h => h) (by rfl) (fun _ => rfl) ?_ ?_
                  rotate_left
                  · intro w' hS
                    obtain ⟨f1, f2, f3⟩ := hS
                    go_simp
                    try with_reducible rfl
                  refine anyC_one (i := 10) (by kernel_rfl) rfl (fun _ => HSD.out) (fun K hK => ?_)
                  go_simp
                  gi_wp2_with ((refine ⟨trivial, ?_⟩; gi_at_call 24; refine CallsIn.mono (F := Fence.wide) (callsIn_wide.2 (HAD.out _)) ?_; rintro e w18 ⟨rfl, rfl⟩))
                  refine anyC_one (i := 11) (by kernel_rfl) rfl (fun _ => HSD.out) (fun K hK => ?_)
                  go_simp
                  refine hK _ _ ?_
                  clear hK K
                  refine anyC_one (i := 12) (by kernel_rfl) rfl (fun _ => HSD.out) (fun K hK => ?_)
                  go_simp
                  refine hK _ _ ?_
                  clear hK K
                  refine anyC_one (i := 13) (by kernel_rfl) rfl (fun _ => HSD.out) (fun K hK => ?_)
                  go_simp
                  refine hK _ _ ?_
                  clear hK K
                  refine anyC_done (by kernel_rfl) (fun h => absurd ((show Array.getD _ 13 true = true by kernel_rfl).symm.trans h) (by decide)) ?_ _
                  refine NoPanic.normal ?_
                  have HS2 : Hid (StAt w (w17.drew.setCell ⟨gp, a, none⟩ (.int .i64 (max (addZ x om) 0))) w2.heap.size b s r gl gp gb N lo' b' s' r' df T (stepT T 1 a om)) := Lib.hid (by
                    have hg2 := grown_trans HG17.out (grown_below (b := r) (Below.refl w17.heap.size w17).drew)
                    obtain ⟨h1, h2, _, _⟩ := HST.out.play.sick a HAN.out om (HT17.out.later (Below.refl _ _).drew) hg2
                    rw [hst, ← HX.out]
                    exact HST.out.step2 gp (.inr (.inl rfl)) hg2 h2 h1)
                  clear hcz hfz HSD
                  go_wp2
                  go_meet
                  case rel => exact ⟨by rw [HBB.out], HS2⟩
              by_cases k2 : ok = 2
              · subst k2
                have hg := tlose_any HST.out.play.t oa
                have hst : stepT T 2 oa om = loseT T oa := rfl
                cases hb : inL T oa with
                | false =>
                  have e : loseT T oa = T := by simp [loseT, hb]
                  have e2 : lostT T oa = true := by simp [lostT, hb]
                  rw [e, e2] at hg
                  rw [e] at hst
                  have HBB := Lib.hid hb
                  clear hb e e2
                  go_wp2_with fail
                  refine hg.mono ?_
                  rintro e w17 ⟨rfl, ht17, hg17⟩
                  have HS2 := Lib.hid (HST.out.step r (.inl rfl) hg17 (HST.out.play.out ht17 hg17))
                  clear hg ht17 hg17
                  go_wp2
                  go_meet
                  case rel => exact ⟨by rw [HBB.out], by rw [hst]; exact HS2⟩
                | true =>
                  obtain ⟨a, rfl, ha⟩ := in_nat hb
                  have haN : a < N := by rw [← HST.out.play.n]; exact ha
                  have HBB := Lib.hid hb
                  clear hb
                  go_wp2_with fail
                  refine hg.mono ?_
                  rintro e w17 ⟨rfl, ht17, hg17⟩
                  obtain ⟨hp1, hp2, hcl, hfz⟩ := HST.out.play.lose a haN ht17 hg17
                  have hcr := (hg17.block q (Array.getElem?_eq_some_iff.1 HCR.out).1 (by have := HQN.out r (.inl rfl); simpa using this)).trans HCR.out
                  have d1 : w17.cell? ⟨q, 1, none⟩ = some (.int .i64 a) := by rw [cell_of_row w17 q 1 _ _ _ hcr]; rfl
                  have HS2 := Lib.hid (HST.out.step2 gb (.inr (.inr rfl)) hg17 hp2 hp1)
                  obtain ⟨x, hx⟩ : ∃ x, lostT T a = x := ⟨_, rfl⟩
                  rw [hx] at hcl ⊢
                  have hxx : ((!x) != (!x)) = false := bne_self_eq_false _
                  have a0 : (0 : Int) ≤ a := by omega
                  have a1 : (a : Int) < N := by omega
                  clear hg ht17 hg17 hcr hx c0 c1 c2 ha haN hp1 hp2
                  go_wp2
                  go_meet
                  case rel => exact ⟨by rw [HBB.out], by rw [hst]; exact HS2⟩
              have e0 : (ok == 0) = false := beq_eq_false_iff_ne.2 k0
              have e1 : (ok == 1) = false := beq_eq_false_iff_ne.2 k1
              have e2 : (ok == 2) = false := beq_eq_false_iff_ne.2 k2
              have hst : stepT T ok oa om = T := by unfold stepT; rw [if_neg k0, if_neg k1, if_neg k2]
              go_wp2
              go_meet
              case rel => exact ⟨rfl, by rw [hst]; exact HST⟩
              --END
              --ENDSW
            case rest =>
            --L1
            obtain ⟨hs15, HSX⟩ := hcut
            subst hs15
            have hts : inL T oa = false → stepT T ok oa om = T := fun h => by
              unfold stepT
              split
              · simp [gainT, h]
              · split
                · simp [sickT, h]
                · split
                  · simp [loseT, h]
                  · rfl
            have HTS := Lib.hid hts
            obtain ⟨T1, hT1⟩ : ∃ T1, stepT T ok oa om = T1 := ⟨_, rfl⟩
            rw [hT1] at HSX HTS
            obtain ⟨zb, hzb⟩ : ∃ zb, inL T oa = zb := ⟨_, rfl⟩
            rw [hzb] at HTS ⊢
            clear hts hT1 hzb HST HCR HQN c0 c1 c2
            obtain ⟨wS, hwS⟩ : ∃ wS, wS = wc := ⟨_, rfl⟩
            subst hwS
            have HN1 := Lib.hid (show T1.sh.length = N from HSX.out.play.n)
            go_upto_block 3 with fail
            go_cut [17] from 150 to 191 (fun s17 wx => ∃ (xa : Option Addr) (xc : Nat), s17 = .slice xa (leftT T1).length xc ∧ Hid (IntsAt wx s17 (leftT T1)) ∧ Hid (Below wS.heap.size wS wx))
            case first =>
              --FAST
              obtain ⟨p, hp⟩ : ∃ p : Nat → Bool, (fun n : Nat => !lostT T1 n) = p := ⟨_, rfl⟩
              have HPP := Lib.hid (fun n : Nat => show p n = !lostT T1 n by rw [← hp])
              have HLE := Lib.hid (show leftT T1 = upTo p N by unfold leftT; rw [hp, HN1.out])
              clear hp
              go_wp2
              go_loopw [17, 151] (fun v i wr => ∃ k2 : Nat, k2 ≤ N ∧ i = .int .i64 (k2 : Int) ∧ Hid (wr.ownsRow wS.heap.size 3 1 v (upTo p k2).length (intsV (upTo p k2))) ∧ Hid (Below wS.heap.size wS wr)) (fun _ i _ => N - (intOf i).toNat)
              case atStart => exact ⟨0, Nat.zero_le _, rfl, Lib.hid (World.ownsRow_nil _ _ _ _), Lib.hid (Below.refl _ _)⟩
              case round =>
                obtain ⟨k2, hk2, rfl, HW, HB⟩ := hrel
                by_cases hl2 : k2 < N
                · have d0 : decide ((k2 : Int) < N) = true := decide_eq_true (by omega)
                  have q0 : (0 : Int) ≤ k2 := by omega
                  have q1 : (k2 : Int) < N := by omega
                  have hpl := HSX.out.play.later HB.out
                  have cb := hpl.lost k2 hl2
                  have hpk := HPP.out k2
                  have hlen := upTo_len p k2
                  obtain ⟨zl, hzl⟩ : ∃ zl, lostT T1 k2 = zl := ⟨_, rfl⟩
                  have HZL := Lib.hid hzl
                  rw [hzl] at cb hpk
                  clear hpl hzl
                  go_upto_if 158 with fail
                  go_cut [17] from 159 to 162 (fun s17 wx => Hid (wx.ownsRow wS.heap.size 3 1 s17 (upTo p (k2 + 1)).length (intsV (upTo p (k2 + 1)))) ∧ Hid (Below wS.heap.size wS wx))
                  case first =>
                    obtain ⟨M, hM⟩ : ∃ M, upTo p k2 = M := ⟨_, rfl⟩
                    rw [hM] at HW hlen
                    cases zl with
                    | true =>
                      have HN := Lib.hid ((upTo_no (p := p) (k := k2) (by rw [hpk]; rfl)).trans hM)
                      clear hpk hM
                      go_wp2
                      go_meet
                      case rel => exact ⟨by rw [HN.out]; exact HW, HB⟩
                    | false =>
                      have HN := Lib.hid ((upTo_yes (p := p) (k := k2) (by rw [hpk]; rfl)).trans (by rw [hM]))
                      clear hpk hM
                      go_wp2_with (at_builtin; refine wpList_push rfl _ _ rfl rfl _ M (k2 : Int) rfl HW.out HB.out rfl (by omega) ?f)
                      case f =>
                        intro v' w' h3 h4
                        have H3 := Lib.hid (show w'.ownsRow wS.heap.size 3 1 v' (upTo p (k2 + 1)).length (intsV (upTo p (k2 + 1))) from by rw [HN.out, List.length_append]; exact h3)
                        have H4 := Lib.hid h4
                        clear h3 h4
                        go_wp2
                        go_meet
                        case rel => exact ⟨H3, H4⟩
                  case rest =>
                    obtain ⟨HW2, HB2⟩ := hcut
                    have HWK := Lib.hid (own_later HW2.out (Below.refl wc.heap.size wc).drew)
                    have HBK := Lib.hid (stepB HB2.out (Below.refl wc.heap.size wc).drew)
                    have hpd := HSX.out.play.later HBK.out
                    have hk1 : k2 < T1.sh.length := by rw [HN1.out]; exact hl2
                    have hc1 := hpd.life k2 hl2
                    have hc2 := hpd.poison k2 hl2
                    have hc3 := hpd.lost k2 hl2
                    have HD1 := Lib.hid (tlife_any hpd.t k2)
                    have HD2 := Lib.hid (tpoison_any hpd.t k2)
                    have HD3 := Lib.hid (tlost_any hpd.t k2)
                    rw [lifeT_in hk1] at HD1
                    rw [poisonT_in hk1] at HD2
                    rw [shAt_in hk1] at hc1 hc2
                    rw [HZL.out] at HD3 hc3
                    obtain ⟨x, hx⟩ : ∃ x, T1.sh[k2].life = x := ⟨_, rfl⟩
                    obtain ⟨y, hy⟩ : ∃ y, T1.sh[k2].poison = y := ⟨_, rfl⟩
                    rw [hx] at HD1 hc1
                    rw [hy] at HD2 hc2
                    have HSD := Lib.hid (And.intro hc1 (And.intro hc2 hc3))
                    have hxx : (x != x) = false := bne_self_eq_false _
                    have hyy : (y != y) = false := bne_self_eq_false _
                    have hzz : (zl != zl) = false := bne_self_eq_false _
                    clear hx hy hc1 hc2 hc3 hpd hk1 cb hpk hlen HW HB HW2
                    go_upto_region 39 with fail
                    refine wp_region_noPanic ?_
                    refine (wpIn_wide (n := 9)).1 ?_
                    refine wpIn_region_any (by kernel_rfl) ?_
                    change wpAnyIn _ _ _ _ _ _ _ _ _ (World.drew _)
                    refine anyS.any (S := fun w' => w'.cell? ⟨gl, k2, none⟩ = some (.int .i64 x) ∧ w'.cell? ⟨gp, k2, none⟩ = some (.int .i64 y) ∧ w'.cell? ⟨gb, k2, none⟩ = some (.bool zl)) ?_
                    refine anyS_take (i := 0) (v := ?_) (by kernel_rfl) rfl (by kernel_rfl) (by kernel_rfl) (by kernel_rfl) (fun _ _ _ h => h) (by kernel_rfl) (fun _ => by kernel_rfl) ?_ ?_
                    rotate_left
                    · intro w' hS
                      go_simp
                      try with_reducible rfl
                    refine anyS_take (i := 1) (v := ?_) (by kernel_rfl) rfl (by kernel_rfl) (by kernel_rfl) (by kernel_rfl) (fun _ _ _ h => h) (by kernel_rfl) (fun _ => by kernel_rfl) ?_ ?_
                    rotate_left
                    · intro w' hS
                      go_simp
                      try with_reducible rfl
                    refine anyS_take (i := 3) (v := ?_) (by kernel_rfl) rfl (by kernel_rfl) (by kernel_rfl) (by kernel_rfl) (fun _ _ _ h => h) (by kernel_rfl) (fun _ => by kernel_rfl) ?_ ?_
                    rotate_left
                    · intro w' hS
                      go_simp
                      try with_reducible rfl
                    refine anyS_take (i := 4) (v := ?_) (by kernel_rfl) rfl (by kernel_rfl) (by kernel_rfl) (by kernel_rfl) (fun _ _ _ h => h) (by kernel_rfl) (fun _ => by kernel_rfl) ?_ ?_
                    rotate_left
                    · intro w' hS
                      go_simp
                      try with_reducible rfl
                    refine anyS_take (i := 5) (v := ?_) (by kernel_rfl) rfl (by kernel_rfl) (by kernel_rfl) (by kernel_rfl) (fun _ _ _ h => h) (by kernel_rfl) (fun _ => by kernel_rfl) ?_ ?_
                    rotate_left
                    · intro w' hS
                      go_simp
                      try with_reducible rfl
                    refine anyS_take (i := 6) (v := ?_) (by kernel_rfl) rfl (by kernel_rfl) (by kernel_rfl) (by kernel_rfl) (fun _ _ _ h => h) (by kernel_rfl) (fun _ => by kernel_rfl) ?_ ?_
                    rotate_left
                    · intro w' hS
                      obtain ⟨f1, f2, f3⟩ := hS
                      go_simp
                      try with_reducible rfl
                    refine anyS_one (i := 2) (by kernel_rfl) rfl (HSD.out) (fun K hK => ?_)
                    go_simp
                    gi_wp2_with ((refine ⟨trivial, ?_⟩; gi_at_call 16; refine CallsIn.mono (F := Fence.wide) (callsIn_wide.2 HD1.out) ?_; rintro e w18 ⟨rfl, rfl⟩))
                    refine anyS_take (i := 7) (v := ?_) (by kernel_rfl) rfl (by kernel_rfl) (by kernel_rfl) (by kernel_rfl) (fun _ _ _ h => h) (by kernel_rfl) (fun _ => by kernel_rfl) ?_ ?_
                    rotate_left
                    · intro w' hS
                      go_simp
                      try with_reducible rfl
                    refine anyS_take (i := 8) (v := ?_) (by kernel_rfl) rfl (by kernel_rfl) (by kernel_rfl) (by kernel_rfl) (fun _ _ _ h => h) (by kernel_rfl) (fun _ => by kernel_rfl) ?_ ?_
                    rotate_left
                    · intro w' hS
                      go_simp
                      try with_reducible rfl
                    refine anyS_take (i := 9) (v := ?_) (by kernel_rfl) rfl (by kernel_rfl) (by kernel_rfl) (by kernel_rfl) (fun _ _ _ h => h) (by kernel_rfl) (fun _ => by kernel_rfl) ?_ ?_
                    rotate_left
                    · intro w' hS
                      go_simp
                      try with_reducible rfl
                    refine anyS_take (i := 10) (v := ?_) (by kernel_rfl) rfl (by kernel_rfl) (by kernel_rfl) (by kernel_rfl) (fun _ _ _ h => h) (by kernel_rfl) (fun _ => by kernel_rfl) ?_ ?_
                    rotate_left
                    · intro w' hS
                      go_simp
                      try with_reducible rfl
                    refine anyS_take (i := 12) (v := ?_) (by kernel_rfl) rfl (by kernel_rfl) (by kernel_rfl) (by kernel_rfl) (fun _ _ _ h => h) (by kernel_rfl) (fun _ => by kernel_rfl) ?_ ?_
                    rotate_left
                    · intro w' hS
                      go_simp
                      try with_reducible rfl
                    refine anyS_take (i := 13) (v := ?_) (by kernel_rfl) rfl (by kernel_rfl) (by kernel_rfl) (by kernel_rfl) (fun _ _ _ h => h) (by kernel_rfl) (fun _ => by kernel_rfl) ?_ ?_
                    rotate_left
                    · intro w' hS
                      go_simp
                      try with_reducible rfl
                    refine anyS_take (i := 14) (v := ?_) (by kernel_rfl) rfl (by kernel_rfl) (by kernel_rfl) (by kernel_rfl) (fun _ _ _ h => h) (by kernel_rfl) (fun _ => by kernel_rfl) ?_ ?_
                    rotate_left
                    · intro w' hS
                      go_simp
                      try with_reducible rfl
                    refine anyS_take (i := 15) (v := ?_) (by kernel_rfl) rfl (by kernel_rfl) (by kernel_rfl) (by kernel_rfl) (fun _ _ _ h => h) (by kernel_rfl) (fun _ => by kernel_rfl) ?_ ?_
                    rotate_left
                    · intro w' hS
                      obtain ⟨f1, f2, f3⟩ := hS
                      go_simp
                      try with_reducible rfl
                    refine anyS_one (i := 11) (by kernel_rfl) rfl (HSD.out) (fun K hK => ?_)
                    go_simp
                    gi_wp2_with ((refine ⟨trivial, ?_⟩; gi_at_call 17; refine CallsIn.mono (F := Fence.wide) (callsIn_wide.2 HD2.out) ?_; rintro e w18 ⟨rfl, rfl⟩))
                    refine anyS_take (i := 16) (v := ?_) (by kernel_rfl) rfl (by kernel_rfl) (by kernel_rfl) (by kernel_rfl) (fun _ _ _ h => h) (by kernel_rfl) (fun _ => by kernel_rfl) ?_ ?_
                    rotate_left
                    · intro w' hS
                      go_simp
                      try with_reducible rfl
                    refine anyS_take (i := 17) (v := ?_) (by kernel_rfl) rfl (by kernel_rfl) (by kernel_rfl) (by kernel_rfl) (fun _ _ _ h => h) (by kernel_rfl) (fun _ => by kernel_rfl) ?_ ?_
                    rotate_left
                    · intro w' hS
                      go_simp
                      try with_reducible rfl
                    refine anyS_take (i := 18) (v := ?_) (by kernel_rfl) rfl (by kernel_rfl) (by kernel_rfl) (by kernel_rfl) (fun _ _ _ h => h) (by kernel_rfl) (fun _ => by kernel_rfl) ?_ ?_
                    rotate_left
                    · intro w' hS
                      go_simp
                      try with_reducible rfl
                    refine anyS_take (i := 19) (v := ?_) (by kernel_rfl) rfl (by kernel_rfl) (by kernel_rfl) (by kernel_rfl) (fun _ _ _ h => h) (by kernel_rfl) (fun _ => by kernel_rfl) ?_ ?_
                    rotate_left
                    · intro w' hS
                      go_simp
                      try with_reducible rfl
                    refine anyS_take (i := 20) (v := ?_) (by kernel_rfl) rfl (by kernel_rfl) (by kernel_rfl) (by kernel_rfl) (fun _ _ _ h => h) (by kernel_rfl) (fun _ => by kernel_rfl) ?_ ?_
                    rotate_left
                    · intro w' hS
                      go_simp
                      try with_reducible rfl
                    refine anyS_take (i := 22) (v := ?_) (by kernel_rfl) rfl (by kernel_rfl) (by kernel_rfl) (by kernel_rfl) (fun _ _ _ h => h) (by kernel_rfl) (fun _ => by kernel_rfl) ?_ ?_
                    rotate_left
                    · intro w' hS
                      go_simp
                      try with_reducible rfl
                    refine anyS_take (i := 23) (v := ?_) (by kernel_rfl) rfl (by kernel_rfl) (by kernel_rfl) (by kernel_rfl) (fun _ _ _ h => h) (by kernel_rfl) (fun _ => by kernel_rfl) ?_ ?_
                    rotate_left
                    · intro w' hS
                      go_simp
                      try with_reducible rfl
                    refine anyS_take (i := 24) (v := ?_) (by kernel_rfl) rfl (by kernel_rfl) (by kernel_rfl) (by kernel_rfl) (fun _ _ _ h => h) (by kernel_rfl) (fun _ => by kernel_rfl) ?_ ?_
                    rotate_left
                    · intro w' hS
                      go_simp
                      try with_reducible rfl
                    refine anyS_take (i := 25) (v := ?_) (by kernel_rfl) rfl (by kernel_rfl) (by kernel_rfl) (by kernel_rfl) (fun _ _ _ h => h) (by kernel_rfl) (fun _ => by kernel_rfl) ?_ ?_
                    rotate_left
                    · intro w' hS
                      obtain ⟨f1, f2, f3⟩ := hS
                      go_simp
                      try with_reducible rfl
                    refine anyS_one (i := 21) (by kernel_rfl) rfl (HSD.out) (fun K hK => ?_)
                    go_simp
                    gi_wp2_with ((refine ⟨trivial, ?_⟩; gi_at_call 18; refine CallsIn.mono (F := Fence.wide) (callsIn_wide.2 HD3.out) ?_; rintro e w18 ⟨rfl, rfl⟩))
                    refine anyS_take (i := 26) (v := ?_) (by kernel_rfl) rfl (by kernel_rfl) (by kernel_rfl) (by kernel_rfl) (fun _ _ _ h => h) (by kernel_rfl) (fun _ => by kernel_rfl) ?_ ?_
                    rotate_left
                    · intro w' hS
                      go_simp
                      try with_reducible rfl
                    refine anyS_take (i := 27) (v := ?_) (by kernel_rfl) rfl (by kernel_rfl) (by kernel_rfl) (by kernel_rfl) (fun _ _ _ h => h) (by kernel_rfl) (fun _ => by kernel_rfl) ?_ ?_
                    rotate_left
                    · intro w' hS
                      go_simp
                      try with_reducible rfl
                    refine anyS_done (by kernel_rfl) (HSD.out) ?_ _
                    refine NoPanic.normal ?_
                    go_wp2
                    go_roundw
                    case rel => exact ⟨k2 + 1, by omega, by go_num, HWK, HBK⟩
                    case measure => simp [intOf]; omega
                · obtain rfl : k2 = N := by omega
                  have HWI := Lib.hid (own_ints HW.out)
                  rw [← HLE.out] at HWI HW
                  obtain ⟨xa, xc, rfl⟩ := own_form HW.out
                  go_wp2
                  go_meet
                  case rel => exact ⟨xa, xc, rfl, HWI, HB⟩
              --END
            case rest =>
            obtain ⟨la, lc, rfl, HLI, HBL⟩ := hcut
            have HSL := Lib.hid (HSX.out.later HBL.out)
            obtain ⟨wL, hwL⟩ : ∃ wL, wL = wc := ⟨_, rfl⟩
            subst hwL
            have hlen4 := leftT_len HSL.out.play.t
            have hov : overT T1 = decide ((leftT T1).length < 2) := rfl
            have hwi : winnerT T1 = if (leftT T1).length = 1 then (leftT T1).getD 0 0 else -1 := rfl
            have HFF := Lib.hid (foes_filter T1)
            have HOV := Lib.hid (tover_any HSL.out.play.t)
            have HWN := Lib.hid (fun (w' : World) (hb : Below wL.heap.size wL w') => twinner_any (HSL.out.later hb).play.t)
            obtain ⟨LL, hLL⟩ : ∃ LL, leftT T1 = LL := ⟨_, rfl⟩
            rw [hLL] at HLI hlen4 hov hwi HFF ⊢
            have HLL := Lib.hid hLL
            obtain ⟨wn, hwn⟩ : ∃ wn, winnerT T1 = wn := ⟨_, rfl⟩
            rw [hwn] at HWN hwi
            have HWI := Lib.hid hwi
            rw [hov] at HOV
            clear hLL hwn hwi hov HSX HBL
            --L2
            obtain ⟨o1, ho1⟩ : ∃ o1, ((LL.length : Int) == 1) = o1 := ⟨_, rfl⟩
            obtain ⟨o2, ho2⟩ : ∃ o2, decide (LL.length < 2) = o2 := ⟨_, rfl⟩
            have ho3 : decide ((LL.length : Int) < 2) = o2 := by
              rw [← ho2]
              by_cases h : LL.length < 2
              · rw [decide_eq_true h]; exact decide_eq_true (by omega)
              · rw [decide_eq_false h]; exact decide_eq_false (by omega)
            rw [ho2] at HOV
            have hoo : (o2 != o2) = false := bne_self_eq_false _
            have hww : (wn != wn) = false := bne_self_eq_false _
            go_upto_if 194 with fail
            go_cut [19, 194] from 195 to 197 (fun s19 s194 wx => s19 = .int .i64 wn ∧ s194 = .bool o1 ∧ wL = wx)
            case first =>
              cases o1 with
              | true =>
                have h1 : LL.length = 1 := by have := beq_iff_eq.1 ho1; omega
                obtain ⟨b0, off, rfl, _, x0⟩ := HLI.out.at 0 (by omega)
                have hw := HWI.out
                rw [if_pos h1] at hw
                have e : LL[0] = wn := by rw [hw]; simp [List.getD, h1]
                rw [e, Nat.add_zero] at x0
                have hpos : (0 : Int) < LL.length := by omega
                clear hw e h1
                go_wp2
                go_meet
                case rel => exact ⟨rfl, rfl, rfl⟩
              | false =>
                have h1 : LL.length ≠ 1 := by have := beq_eq_false_iff_ne.1 ho1; omega
                have hw := HWI.out
                rw [if_neg h1] at hw
                subst hw
                clear h1
                go_wp2
                go_meet
                case rel => exact ⟨rfl, rfl, rfl⟩
            case rest =>
            obtain ⟨rfl, rfl, rfl⟩ := hcut
            go_upto_region 45 with fail
            go_cut [219] from 198 to 219 (fun s219 wx => s219 = .bool false ∧ Hid (Below wL.heap.size wL wx))
            case first =>
              go_wp2_with fail
              refine HOV.out.mono ?_
              rintro e w20 ⟨rfl, hb20⟩
              have HB20 := Lib.hid hb20
              clear hb20
              go_wp2_with fail
              refine (HWN.out w20 HB20.out).mono ?_
              rintro e w21 ⟨rfl, hb21⟩
              have HB21 := Lib.hid (stepB HB20.out hb21)
              clear hb21
              cases zb with
              | true =>
                go_wp2
                go_meet
                case rel => exact ⟨rfl, HB21⟩
              | false =>
                have HSA := Lib.hid (tsame_any (HSL.out.later HB21.out).play.t (HSL.out.later HB21.out).was)
                rw [HTS.out rfl, show sameT T T = true by simp [sameT]] at HSA
                go_wp2_with fail
                refine HSA.out.mono ?_
                rintro e w22 ⟨rfl, hb22⟩
                have HB22 := Lib.hid (stepB HB21.out hb22)
                clear hb22
                go_wp2
                go_meet
                case rel => exact ⟨rfl, HB22⟩
            case rest =>
            obtain ⟨rfl, HBM⟩ := hcut
            have HPM := Lib.hid (HSL.out.later HBM.out).play
            have HBW := Lib.hid (HSL.out.later HBM.out).bel
            have HMM := Lib.hid (HSL.out.later HBM.out).mks
            have HLM := Lib.hid (HLI.out.later HBM.out)
            clear HOV HWN HSL HLI ho1 ho2 ho3 hoo hww HTS HWI
            obtain ⟨wM, hwM⟩ : ∃ wM, wM = wc := ⟨_, rfl⟩
            subst hwM
            go_wp2
            refine wp_loop (fun a W => a.tmps.size = 290 ∧ a.tmps.getD 7 undef = .int .i64 N ∧ a.tmps.getD 8 undef = .slice (some ⟨gl, 0, none⟩) N cap ∧ a.tmps.getD 9 undef = .pointer (some ⟨b, 0, none⟩) ∧ a.tmps.getD 11 undef = .slice (some ⟨gp, 0, none⟩) N N ∧ a.tmps.getD 12 undef = .slice (some ⟨gb, 0, none⟩) N N ∧
                a.tmps.getD 61 undef = .slice (some ⟨ob, oo, none⟩) l.length uc ∧ a.tmps.getD 62 undef = .int .i64 l.length ∧ a.tmps.getD 63 undef = .int .i64 k ∧ a.tmps.getD 17 undef = .slice la LL.length lc ∧ a.tmps.getD 220 undef = .int .i64 N ∧
                ∃ k3 : Nat, k3 ≤ N ∧ a.tmps.getD 221 undef = .int .i64 k3 ∧ Hid (PlayAt W w2.heap.size b s r gl gp gb N T1) ∧ Hid (Below w.heap.size w W) ∧ Hid (Marks w.heap.size W a.defers) ∧ Hid (IntsAt W (.slice la LL.length lc) LL))
              (fun a _ => N - (intOf (a.tmps.getD 221 undef)).toNat) ?start3 ?round3
            case start3 => exact ⟨rfl, rfl, rfl, rfl, rfl, rfl, rfl, rfl, rfl, rfl, rfl, 0, Nat.zero_le _, rfl, HPM, HBW, HMM, HLM⟩
            case round3 =>
              clear HPM HBW HMM HLM HBM
              rintro ⟨t3, df3⟩ wr3 ⟨hsz, h7, h8, h9, h11, h12, h61, h62, h63, h17, h220, k3, hk3, h221, HP3, HB3, HM3, HL3⟩
              dsimp only at hsz h7 h8 h9 h11 h12 h61 h62 h63 h17 h220 h221 HM3
              rw [arr290 t3 hsz]
              simp only [h7, h8, h9, h11, h12, h61, h62, h63, h17, h220, h221]
              clear hsz h7 h8 h9 h11 h12 h61 h62 h63 h17 h220 h221
              obtain ⟨fr3, hfr⟩ : ∃ fr3 : Nat → Value, fr3 = fun i => t3.getD i undef := ⟨_, rfl⟩
              have hfr2 : ∀ i, t3.getD i undef = fr3 i := fun i => by rw [hfr]
              simp only [hfr2]
              clear hfr hfr2
              by_cases hl3 : k3 < N
              · have d0 : decide ((k3 : Int) < N) = true := decide_eq_true (by omega)
                go_upto_block 7 with fail
                go_cut [21] from 227 to 244 (fun s21 wx => s21 = .int .i64 (nextT T1 k3) ∧ wr3 = wx)
                case first =>
                  have HDN := Lib.hid (dF_next HP3.out.t.n2 k3 (by rw [HP3.out.n]; exact hl3))
                  have hfl : (flags T1).length = N := by rw [flags_len, HP3.out.n]
                  rw [HP3.out.n] at HDN
                  have HCB := Lib.hid (fun (j : Nat) (hj : j < N) => HP3.out.lost j hj)
                  go_wp2
                  go_loop [21, 22] (fun s21 s22 => ∃ c : Nat, c ≤ N - 1 ∧ s21 = .int .i64 (dF (flags T1) k3 c) ∧ s22 = .int .i64 ((N : Int) - 1 - c)) (fun _ s22 => (intOf s22).toNat)
                  case atStart => exact ⟨0, Nat.zero_le _, rfl, by simp⟩
                  case round =>
                    obtain ⟨c, hc, rfl, rfl⟩ := hrel
                    by_cases hlc : c < N - 1
                    · have e0 : decide ((0 : Int) < (N : Int) - 1 - c) = true := decide_eq_true (by omega)
                      obtain ⟨d, hd⟩ : ∃ d : Nat, d = N - 1 - c := ⟨_, rfl⟩
                      have hdi : (N : Int) - 1 - c = d := by omega
                      obtain ⟨j, hj⟩ : ∃ j, (k3 + d) % N = j := ⟨_, rfl⟩
                      have hjn : j < N := by rw [← hj]; exact Nat.mod_lt _ (by omega)
                      have hji : ((k3 : Int) + d) % (N : Int) = j := by rw [← hj]; push_cast; rfl
                      have cj := HCB.out j hjn
                      have hdf : dF (flags T1) k3 (c + 1) = if lostT T1 j then dF (flags T1) k3 c else j := by
                        show (if lostF (flags T1) ((k3 + ((flags T1).length - 1 - c)) % (flags T1).length) then _ else _) = _
                        rw [hfl, ← hd, hj, lostT_flags]
                      have p0 : (0 : Int) ≤ j := by omega
                      have p1 : (j : Int) < N := by omega
                      have hnz : (N : Int) ≠ 0 := by omega
                      obtain ⟨zl, hzl⟩ : ∃ zl, lostT T1 j = zl := ⟨_, rfl⟩
                      rw [hzl] at cj hdf
                      have hd1 : 0 < d := by omega
                      rw [hdi] at e0
                      simp only [hdi]
                      have HDD := Lib.hid hd
                      clear hj hzl hd
                      cases zl with
                      | true =>
                        rw [if_pos rfl] at hdf
                        go_wp2
                        go_round
                        case rel => exact ⟨c + 1, by omega, by rw [hdf], by have := HDD.out; congr 1; omega⟩
                        case measure => have := HDD.out; simp [intOf]; omega
                      | false =>
                        rw [if_neg (by decide)] at hdf
                        go_wp2
                        go_round
                        case rel => exact ⟨c + 1, by omega, by rw [hdf, hji], by have := HDD.out; congr 1; omega⟩
                        case measure => have := HDD.out; simp [intOf]; omega
                    · obtain rfl : c = N - 1 := by omega
                      have e0 : decide ((0 : Int) < (N : Int) - 1 - ((N - 1 : Nat) : Int)) = false := decide_eq_false (by omega)
                      have HDN2 := Lib.hid HDN.out
                      go_wp2
                      go_meet
                      case rel => exact ⟨by rw [HDN2.out], rfl⟩
                case rest =>
                obtain ⟨rfl, rfl⟩ := hcut
                clear d0
                have hx4 := below_new wr3 (.cells #[.slice none 0 0] 22)
                have HTX := Lib.hid (HP3.out.t.later hx4)
                have HBX := Lib.hid hx4
                have HLX := Lib.hid (list_newO wr3 wr3.heap.size)
                clear hx4
                go_wp2_with fail
                refine (foes_any (some ⟨b, 0, none⟩) (k3 : Int) _).mono ?_
                rintro e w5x ⟨rfl, hd1, hd2, hb5, hs5⟩
                have HT5 := Lib.hid (HTX.out.later hb5)
                have HB5 := Lib.hid (HBX.out.trans (hb5.mono HBX.out.size))
                have HL5 := Lib.hid (HLX.out.later hb5)
                have hsz : w5x.heap.size = wr3.heap.size + 3 := by rw [hs5]; simp
                simp only [World.size_alloc] at hd1 hd2
                have hoff : ∀ x, x = b ∨ x = s ∨ x = r ∨ x = wr3.heap.size + 1 ∨ x = wr3.heap.size + 1 + 1 → ¬False ∧ Off (fun k => k = wr3.heap.size) w5x x := fun x hx => by
                  have h1 := HP3.out.t.lt
                  have h2 := HP3.out.t.sd.1
                  have h3 := HP3.out.t.ltr
                  exact ⟨fun e => e, off_lO HL5.out (by rcases hx with h | h | h | h | h <;> omega) (by intro e; cases e)⟩
                have HSEQ := Lib.hid (foes_seq 8 (by omega) (fun _ => False) (fun k => k = wr3.heap.size) hd1 hd2 HT5.out hoff)
                have HI0 : IntsI wr3.heap.size wr3 w5x [] w5x := ⟨.slice none 0 0, HL5.out, KpP.refl _ _ _, HB5.out, Nat.zero_le _⟩
                have HSZ := Lib.hid hsz
                clear hd1 hd2 hb5 hs5 hoff hsz HTX HBX HLX
                try dsimp only
                go_wp2_with fail
                refine (wpIn_wide (n := 9)).1 ?_
                simp only [World.size_alloc]
                refine range_world3 rfl (by omega) (I := IntsI wr3.heap.size wr3 w5x) (Ix := fun _ _ _ => False) (gf := 42) (lb := _) rfl trivial (fun _ _ => by kernel_rfl) HSEQ.out KpP.trans (fun W' o o' ho hc _ => KpP.put o' (.inr rfl) ho hc) (fun W W' hb => KpP.of_below _ _ hb) (Below.refl _ _) (fun _ => rfl)
                  (intsI_own HB5.out.size (Nat.le_refl _)) (fun c s A B row hs hg hr => hs) (fun s A B row hs hg hr => hs) (fun s A B row hs hg hr => hs) HI0 ?_ ?_ ?_
                · --FAST
                  rintro pre x W K hI hT hsz hK
                  have HPL := Lib.hid (show pre.length + 1 ≤ 1000 from by
                    have h1 := hT.length_le
                    have h2 := upTo_len (foeB T1 k3) T1.sh.length
                    have h3 := HP3.out.t.n2
                    unfold foesT at h1
                    simp at h1
                    omega)
                  have HK := Lib.hid hK
                  clear hK hT hI
                  simp only [encF]
                  simp
                  gi_wp2
                  refine HK.out _ _ (Below.refl _ _) ?_
                  clear HK
                  intro Wb hsz2 hrest hkw ⟨v1, l0, k0, b0, hl1⟩
                  have cl := l0.head.cell
                  have fl := l0.head.frozen
                  obtain ⟨xa1, xc1, rfl⟩ := own_form l0.own
                  have HL1 := Lib.hid l0
                  have HK1 := Lib.hid k0
                  have HB1 := Lib.hid b0
                  have HKB := Lib.hid hkw
                  clear hsz2 hrest hkw l0 k0 b0 hl1
                  have hlen : pre.length + [x].length ≤ 1000 := by have := HPL.out; simpa using this
                  have hlo : wr3.heap.size ≤ (Wb.alloc (.cells #[.int .i64 x] 3)).heap.size := by have := HB1.out.size; simp; omega
                  gi_wp2_with (gi_at_builtin; refine wpListIn_append_ints rfl _ _ rfl rfl wr3.heap.size _ pre.length (intsV pre) rfl (own_later HL1.out.own (below_new Wb _)) _ 1 1 [x] rfl rfl ((RowAt.new _ 3 (intsV [x])).vals 1) hlen hlo ?_)
                  intro v' w6 hown hgrow hnew
                  have hsep : ∀ c, c = wr3.heap.size → (Value.slice xa1 pre.length xc1).ownBlock ≠ some c := fun c hc e => by subst hc; exact (HL1.out.row _ e).2.2 rfl
                  obtain ⟨l7, k7, h6⟩ := ListIn.snoc (E := fun _ => False) (H := fun k => k = wr3.heap.size) HL1.out rfl hgrow hown (by rw [World.size_alloc]; exact hnew) hsep
                  have c6 := h6.cell
                  have f6 := h6.frozen
                  have HB7 := Lib.hid (show Below wr3.heap.size wr3 (w6.setCell ⟨wr3.heap.size, 0, none⟩ v') from ((HB1.out.alloc HB1.out.size _).grown hgrow (by have := HB1.out.size; simp; omega) (fun c e => by have := (HL1.out.row c e).1; omega)).setCell (Nat.le_refl _) v')
                  obtain ⟨xa7, xc7, rfl⟩ := own_form hown
                  have HL7 := Lib.hid l7
                  have HK7 := Lib.hid k7
                  clear hown hgrow hnew hsep l7 k7 h6 hlen hlo cl fl
                  gi_wp2
                  exact ⟨HK7.out.from (fun k e => e.elim), HKB.out.trans (HK7.out.mono (fun k e => e.elim)), _, HL7.out, HK1.out.trans HK7.out, HB7.out, by rw [List.length_append]; exact HPL.out⟩
                  --END
                · rintro D ys W2 hD hS ⟨v2, l2, k2, b2, hl2⟩ hK
                  subst hS
                  rw [HFF.out k3] at l2 hl2
                  have HP2 := Lib.hid (HP3.out.later b2)
                  have HB2 := Lib.hid (stepB HB3.out b2)
                  have HL2 := Lib.hid (HL3.out.later b2)
                  have HM2 : Hid (Marks w.heap.size W2 ({ target := .collected D, args := #[] } :: df3)) := Lib.hid (by
                    obtain ⟨Ds, h1, h2, h3, h4⟩ := HM3.out
                    subst h1
                    refine ⟨D :: Ds, rfl, List.nodup_cons.2 ⟨fun hm => ?_, h2⟩, fun D' hD' => ?_, fun D' hD' => ?_⟩
                    · have := h4.lt hm
                      have := HSZ.out
                      omega
                    · rcases List.mem_cons.1 hD' with rfl | h
                      · have := HB3.out.size
                        have := HSZ.out
                        omega
                      · exact h3 _ h
                    · rcases List.mem_cons.1 hD' with rfl | h
                      · exact hK
                      · exact (b2.block _ (h4.lt h)).trans (h4 _ h))
                  have HNX := Lib.hid (tnext_any HP2.out.t (k3 : Int))
                  obtain ⟨nx, hnx⟩ : ∃ nx, nextT T1 (k3 : Int) = nx := ⟨_, rfl⟩
                  rw [hnx] at HNX
                  simp only [hnx]
                  have hnn : (nx != nx) = false := bne_self_eq_false _
                  obtain ⟨F, hF⟩ : ∃ F, LL.filter (fun x => x != (k3 : Int)) = F := ⟨_, rfl⟩
                  rw [hF] at l2 hl2
                  have HFL := Lib.hid hF
                  have hh := l2.head
                  have HV2 := Lib.hid (own_ints l2.own)
                  obtain ⟨xa, xc, rfl⟩ := own_form l2.own
                  have cb := hh.cell
                  have hF4 : F.length ≤ 4 := by rw [← hF]; exact Nat.le_trans (List.length_filter_le _ _) hlen4
                  clear HSEQ HI0 k2 b2 hK hh l2 hl2 hF HP3 HB3 HM3 HL3 HT5 HB5 HL5 hD hnx
                  go_wp2
                  go_loop [25, 255] (fun i c => ∃ j : Nat, j ≤ LL.length ∧ c = .int .i64 (j : Int) ∧ i = .int .i64 ((((LL.take j).filter (fun x => x != (k3 : Int))).length : Nat) : Int)) (fun _ c => LL.length - (intOf c).toNat)
                  case atStart => exact ⟨0, Nat.zero_le _, rfl, rfl⟩
                  case round =>
                    obtain ⟨j, hj, rfl, rfl⟩ := hrel
                    by_cases hlj : j < LL.length
                    · obtain ⟨b0, off, rfl, _, x0⟩ := HL2.out.at j hlj
                      have htk := take_last LL j hlj
                      have hfa := filter_at (fun x => x != (k3 : Int)) LL j hlj
                      rw [HFL.out] at hfa
                      obtain ⟨x, hx⟩ : ∃ x, LL[j] = x := ⟨_, rfl⟩
                      rw [hx] at x0 htk hfa
                      have q0 : (0 : Int) ≤ j := by omega
                      have q1 : (j : Int) < LL.length := by omega
                      cases hxk : (x != (k3 : Int)) with
                      | false =>
                        have HNF := Lib.hid (show ((LL.take (j + 1)).filter (fun x => x != (k3 : Int))).length = ((LL.take j).filter (fun x => x != (k3 : Int))).length by rw [htk, List.filter_append]; simp [hxk])
                        clear htk hfa hx
                        go_wp2
                        go_round
                        case rel => exact ⟨j + 1, by omega, by go_num, by rw [HNF.out]⟩
                        case measure => simp [intOf]; omega
                      | true =>
                        have HNF := Lib.hid (show ((LL.take (j + 1)).filter (fun x => x != (k3 : Int))).length = ((LL.take j).filter (fun x => x != (k3 : Int))).length + 1 by rw [htk, List.filter_append]; simp [hxk])
                        obtain ⟨m, hm⟩ : ∃ m, ((LL.take j).filter (fun x => x != (k3 : Int))).length = m := ⟨_, rfl⟩
                        have hm3 : ∃ h : m < F.length, F[m] = x := by subst hm; exact hfa hxk
                        obtain ⟨hm1, hm2⟩ := hm3
                        rw [hm] at HNF
                        simp only [hm]
                        obtain ⟨b3, off3, rfl, _, y0⟩ := HV2.out.at m hm1
                        rw [hm2] at y0
                        have r0 : (0 : Int) ≤ m := by omega
                        have r1 : (m : Int) < F.length := by omega
                        have r2 : decide ((F.length : Int) ≤ m) = false := decide_eq_false (by omega)
                        have r3 : decide (F.length ≤ m) = false := decide_eq_false (by omega)
                        have hxx : (x != x) = false := bne_self_eq_false _
                        clear htk hfa hx hm hm2
                        go_wp2
                        go_round
                        case rel => exact ⟨j + 1, by omega, by go_num, by rw [HNF.out]; go_num⟩
                        case measure => simp [intOf]; omega
                    · obtain rfl : j = LL.length := by omega
                      have HTF := Lib.hid (show ((LL.take LL.length).filter (fun x => x != (k3 : Int))).length = F.length by rw [List.take_length, HFL.out])
                      rw [HTF.out]
                      have hff : ((F.length : Int) != F.length) = false := bne_self_eq_false _
                      go_wp2_with fail
                      refine HNX.out.mono ?_
                      rintro e w7x ⟨rfl, rfl⟩
                      go_wp2
                      refine ⟨⟨rfl, rfl, rfl, rfl, rfl, rfl, rfl, rfl, rfl, rfl, rfl, k3 + 1, by omega, by go_num, HP2, HB2, HM2, HL2⟩, ?_⟩
                      simp [intOf]
                      omega
                · rintro D c pre W hD hS hI hK
                  exact hI.elim
              · obtain rfl : k3 = N := by omega
                go_wp2
                refine ⟨⟨rfl, rfl, rfl, rfl, rfl, rfl, rfl, rfl, k + 1, T1, by omega, by go_num, HP3, HB3, HM3⟩, ?_⟩
                simp [intOf]
                omega
            --ENDL2
            --ENDL1
          · obtain rfl : k = l.length := by omega
            go_wp2
            exact HMK.out.leave HBR.out (fun W' => results_tmp (t := 6) rfl _ _ _)

end Go.Proofs.Ytbiomffjmajlgaa
