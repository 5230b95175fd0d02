/- rest, Begin and Next of a turn (layer 15) on a board without objects. -/
import Derived.Test.YtdlkdilgjmmlaaaDoorXq
namespace Go.Proofs.YtdlkdilgjmmlaaaDoor
open Go.RowKit Go.Maps
attribute [local go_sem] Oper.semAt_some

theorem below_own {w : World} : OwnFrom w.heap.size (fun (_ : List ObjL) (W : World) => Below w.heap.size w W) := by
  rintro s X Y row h hg hr
  exact h.grown hg h.size (fun k e => (hr k e).1)
set_option maxRecDepth 100000 in
set_option maxHeartbeats 16000000 in
theorem rest_in {w : World} {lo : Nat} {g : GhostB} {T : TeamL} {D : DryL} (h : BoardAt w lo g ⟨made13 [], T, D⟩) : CallsIn Fence.wide 9 Tryd.prog 26 #[.pointer (some ⟨g.q, 0, none⟩)] w (RetBd w lo g ⟨made13 [], T, D⟩ (.tuple #[])) := by
  have HH := Lib.hid h
  have hb1 := below_new w (.cells #[.pointer (some ⟨g.q, 0, none⟩)] 24)
  have h1 := h.later hb1
  have hs0 := (HdAt.new w (.pointer (some ⟨g.q, 0, none⟩)) 24)
  have HFD := Lib.hid (fade_any h1.st h1.wf (Nat.le_succ_of_le h1.len))
  rw [show fadeL (BoardL.mk (made13 []) T D).S = made13 [] from bare_fade] at HFD
  obtain ⟨q0, -⟩ := h1.cells
  have c0 := hs0.cell
  have HB1 := Lib.hid hb1
  have H1 := Lib.hid h1
  have HS0 := Lib.hid hs0
  have HLT := Lib.hid (show ∀ k, g.own k → k < w.heap.size from fun k hk => h.ownLt hk)
  obtain ⟨q, hq⟩ : ∃ q, g.q = q := ⟨_, rfl⟩
  have HQ := Lib.hid hq
  rw [hq] at q0
  rw [hq] at c0 HS0 H1 HB1 HFD ⊢
  clear hb1 h1 hs0 h hq
  refine callsIn_of_wp_marks Tryd.func26 rfl trivial ?_ rfl
  simp only [Tryd.ntmps26, List.size_toArray, List.length_cons, List.length_nil, Nat.reduceAdd, Nat.reduceSub, Array.replicate_succ, Array.replicate_zero, List.push_toArray, List.append_toArray, List.nil_append, List.cons_append]
  gi_wp2_with fail
  refine ⟨trivial, (callsIn_wide.2 HFD.out).mono ?_⟩
  rintro e w2 ⟨rfl, G2, hs2, ht2⟩
  have hbw := H1.out.withS hs2 ht2 H1.out.wf H1.out.len rfl
  obtain ⟨w1, hw1⟩ : ∃ w1, w.alloc (.cells #[.pointer (some ⟨q, 0, none⟩)] 24) = w1 := ⟨_, rfl⟩
  rw [hw1] at HS0 H1 HB1 HFD hbw ht2 c0 q0
  have HBD2 := Lib.hid hbw.1
  have HTB2 := Lib.hid hbw.2
  have HS2 := Lib.hid (HS0.out.of (hbw.2.block _ HS0.out.lt (fun e => Nat.lt_irrefl _ (HLT.out _ e))))
  have HFA := Lib.hid (field_any (some ⟨g.b, 0, none⟩) (nil_ints w2) (by decide))
  obtain ⟨p0, -⟩ := hbw.1.cells
  have p0 : w2.cell? ⟨q, 0, none⟩ = some (.pointer (some ⟨g.b, 0, none⟩)) := by rw [← HQ.out]; exact p0
  have c2 := HS2.out.cell
  clear hs2 ht2 hbw HFD c0 q0 hw1
  dsimp only
  gi_wp2_with fail
  refine ⟨trivial, (callsIn_wide.2 HFA.out).mono ?_⟩
  rintro e wr ⟨rfl, hf1, ⟨u, hf2, hu⟩, hbr⟩
  have HBR := Lib.hid hbr
  have HST := Lib.hid (HBD2.out.later hbr)
  have HSEQ := Lib.hid (field_seq 8 (by omega) (w := wr) (fun _ => False) (fun _ => False) (fun k hk => hk.elim) hf1 hf2 HST.out.st HST.out.wf (Nat.le_succ_of_le HST.out.len) hu (by decide) (fun c hc => hc.elim))
  have HI0 : Hid (Below wr.heap.size wr wr) := Lib.hid (Below.refl _ _)
  clear hf1 hf2 hu hbr HFA p0 c2
  gi_wp2_with fail
  refine range_world3 rfl (by omega) (I := fun _ W => Below wr.heap.size wr W) (Ix := fun _ _ _ => False) (gf := 59) (lb := _) rfl trivial (fun _ _ => by kernel_rfl) HSEQ.out KpP.trans (fun W' o o' ho hc _ => KpP.put o' (.inr rfl) ho hc) (fun W W' hb => KpP.of_below _ _ hb) (Below.refl _ _) (fun _ => rfl)
    below_own (fun c s A B row hs hg hr => hs) (fun s A B row hs hg hr => hs) (fun s A B row hs hg hr => hs) HI0.out ?round ?done ?stop
  case stop =>
    rintro D c pre W hD hS hI hK
    exact hI.elim
  case round =>
    rintro pre x W K hI hT hsz hK
    have h1 : pre ++ [x] <+: fieldL (made13 []) [] := hT
    have h2 := h1.length_le
    rw [bare_field] at h2
    simp at h2
  case done =>
    rintro D1 ys W hD hS hI hK
    gi_wp2
    refine ⟨by simp, .inl ⟨_, _, rfl, run_takeDeferred hK, ?_⟩⟩
    have hlt : ∀ k, g.own k → k < wr.heap.size := fun k hk => Nat.lt_of_lt_of_le (HLT.out k hk) (Nat.le_trans (Nat.le_trans HB1.out.size HTB2.out.size) HBR.out.size)
    have hk1 : ∀ k, k < wr.heap.size → (W.putObj D1 (.deferred none)).heap[k]? = wr.heap[k]? := fun k hk => (World.putObj_heap_other (by omega)).trans (hI.block k hk)
    refine ⟨_, by simp [results], rfl, { g with G := G2 }, ?_, ?_, rfl⟩
    · exact HST.out.kept (by simpa using hI.size) fun k hk => hk1 k (HST.out.ownLt hk)
    · exact ⟨hI.os.trans (HBR.out.os.trans (HTB2.out.os.trans HB1.out.os)), hI.tape.trans (HBR.out.tape.trans (HTB2.out.tape.trans HB1.out.tape)), hI.output.trans (HBR.out.output.trans (HTB2.out.output.trans HB1.out.output)), by have := hI.size; have := HBR.out.size; have := HTB2.out.size; have := HB1.out.size; simp; omega,
        fun k h1 h2 => by
          have e1 := HB1.out.size
          have e2 := HTB2.out.size
          have e3 := HBR.out.size
          exact (hk1 k (by omega)).trans ((HBR.out.block k (by omega)).trans ((HTB2.out.block k (by omega) h2).trans (HB1.out.block k h1))),
        fun k h1 h2 => HTB2.out.own k (Nat.lt_of_lt_of_le h1 HB1.out.size) h2⟩
theorem rest_any {w : World} {lo : Nat} {g : GhostB} {T : TeamL} {D : DryL} (h : BoardAt w lo g ⟨made13 [], T, D⟩) : Calls Tryd.prog 26 #[.pointer (some ⟨g.q, 0, none⟩)] w (RetBd w lo g ⟨made13 [], T, D⟩ (.tuple #[])) := (callsIn_wide (n := 9)).1 (rest_in h)

/-- Where Begin stands: the turn, and the board, whichever new blocks it has. -/
def PhS (w w' : World) (lo : Nat) (g : GhostB) (T : TeamL) (D : DryL) (t : Nat) (y : TurnL) : Prop := ∃ g', PhAt w' lo g' ⟨made13 [], T, D⟩ t y ∧ g'.q = g.q ∧ g'.b = g.b ∧ g'.tb = g.tb ∧ TurnedO w w' (own3 g t) (own3 g' t)
theorem PhS.all {w w' : World} {lo t : Nat} {g : GhostB} {T : TeamL} {D : DryL} {y : TurnL} (h : PhS w w' lo g T D t y) : PhS w w' lo g T D t y ∧ w'.cell? ⟨g.q, 0, none⟩ = some (.pointer (some ⟨g.b, 0, none⟩)) ∧ w'.cell? ⟨g.q, 1, none⟩ = some (.pointer (some ⟨g.tb, 0, none⟩)) ∧ w'.cell? ⟨t, 0, none⟩ = some (.int .i64 y.team) := by
  have hh := h
  obtain ⟨g', hp, h1, h2, h3, _⟩ := h
  obtain ⟨c0, c1, -⟩ := hp.bd.cells
  rw [h1] at c0 c1
  rw [h2] at c0
  rw [h3] at c1
  exact ⟨hh, c0, c1, hp.tu.cells.1⟩
theorem PhS.later {w w' w2 : World} {lo t : Nat} {g : GhostB} {T : TeamL} {D : DryL} {y : TurnL} (h : PhS w w' lo g T D t y) (hb : Below w'.heap.size w' w2) : PhS w w2 lo g T D t y := by
  obtain ⟨g', hp, h1, h2, h3, h4⟩ := h
  exact ⟨g', hp.later hb, h1, h2, h3, h4.trans (TurnedO.of_below hb)⟩
theorem phs_in {w w' : World} {lo t : Nat} {g : GhostB} {T : TeamL} {D : DryL} {y : TurnL} (h : PhS w w' lo g T D t y) (k : Int) : Calls Tryd.prog 24 #[.pointer (some ⟨g.tb, 0, none⟩), .int .i64 k] w' (RetList w' (seatsT T k)) := by
  obtain ⟨g', hp, h1, h2, h3, h4⟩ := h
  have h5 := tin_any hp.bd.tm k
  rw [h3] at h5
  exact h5
theorem phs_untap {w w' : World} {lo t : Nat} {g : GhostB} {T : TeamL} {D : DryL} {y : TurnL} (h : PhS w w' lo g T D t y) {v : Value} {k : Int} (hv : IntsAt w' v (seatsT T k)) : Calls Tryd.prog 23 #[.pointer (some ⟨g.b, 0, none⟩), v] w' (fun e w2 => (∃ n : Int, e = .returned (.int .i64 n)) ∧ PhS w w2 lo g T D t y) := by
  obtain ⟨g', hp, h1, h2, h3, h4⟩ := h
  have h5 := untap_any hp.bd.st hp.bd.wf (Nat.le_succ_of_le hp.bd.len) hv (Nat.le_trans (seat4 hp.bd.tm k) (by decide))
  rw [h2, show untapL (BoardL.mk (made13 []) T D).S (seatsT T k) = made13 [] from bare_untap _] at h5
  refine h5.mono ?_
  rintro e w2 ⟨rfl, G2, hs, ht⟩
  rw [← h2] at hs
  have h6 := hp.bd.withS hs ht hp.bd.wf hp.bd.len rfl
  have h7 := hp.board h6.1 h6.2.o
  exact ⟨⟨_, rfl⟩, _, h7.1, h1, h2, h3, h4.trans h7.2⟩
set_option maxRecDepth 100000 in
set_option maxHeartbeats 16000000 in
theorem begin_any {w : World} {lo t : Nat} {g : GhostB} {T : TeamL} {D : DryL} {y : TurnL} (h : PhAt w lo g ⟨made13 [], T, D⟩ t y) : Calls Tryd.prog 12 #[.pointer (some ⟨t, 0, none⟩), .pointer (some ⟨g.q, 0, none⟩)] w (RetPh w lo g ⟨made13 [], T, D⟩ t y) := by
  have HH := Lib.hid h
  have HDR := Lib.hid (drawTurn_any h)
  have HRE := Lib.hid (rest_any h.bd)
  have HPS := Lib.hid (show PhS w w lo g T D t y from ⟨g, h, rfl, rfl, rfl, TurnedO.of_below (Below.refl _ _)⟩)
  obtain ⟨-, -, t2, -⟩ := h.tu.cells
  obtain ⟨tm, no, ph, la⟩ := y
  dsimp only at t2
  clear h
  by_cases h1 : ph = 1
  · subst h1
    clear HDR HRE
    go_enter Tryd.func12, Tryd.ntmps12
    go_upto_region 3 with fail
    go_region_held3 (fun w' => PhS w w' lo g T D t ⟨tm, no, 1, la⟩ ∧ w'.cell? ⟨g.q, 0, none⟩ = some (.pointer (some ⟨g.b, 0, none⟩)) ∧ w'.cell? ⟨g.q, 1, none⟩ = some (.pointer (some ⟨g.tb, 0, none⟩)) ∧ w'.cell? ⟨t, 0, none⟩ = some (.int .i64 tm))
      (first | assumption | exact PhS.all (by assumption) | exact PhS.all (HPS.out.later (Below.refl _ _).drew) | exact PhS.all (PhS.later (And.left (by assumption)) (by assumption)))
      (first | (go_at_call 24; refine (phs_in (And.left (by assumption)) tm).mono ?_; rintro e w4 ⟨v, rfl, hr4, hb4⟩; have HR4 := Lib.hid (own_ints hr4)) | (go_at_call 23; refine (phs_untap (And.left (by assumption)) HR4.out).mono ?_; rintro e w5 ⟨⟨n, rfl⟩, hps⟩))
    go_wp2
    go_end0
    obtain ⟨g2, h1, h2, _, _, h5⟩ := hps
    exact ⟨rfl, g2, D, h1, h2, h5⟩
  · have e1 : (ph == 1) = false := beq_eq_false_iff_ne.2 h1
    by_cases h2 : ph = 2
    · subst h2
      clear HRE HPS
      go_enter Tryd.func12, Tryd.ntmps12
      go_wp2_with fail
      refine HDR.out.mono ?_
      rintro e w5 ⟨rfl, hr⟩
      dsimp only
      go_wp2
      go_end0
      exact ⟨rfl, hr⟩
    · have e2 : (ph == 2) = false := beq_eq_false_iff_ne.2 h2
      by_cases h8 : ph = 8
      · subst h8
        clear HDR HPS
        go_enter Tryd.func12, Tryd.ntmps12
        go_wp2_with fail
        refine HRE.out.mono ?_
        rintro e w5 ⟨rfl, g2, hb, ht, hq⟩
        have hp := HH.out.board hb ht.o
        clear hb ht
        dsimp only
        go_wp2
        go_end0
        exact ⟨rfl, g2, D, hp.1, hq, hp.2⟩
      · have e8 : (ph == 8) = false := beq_eq_false_iff_ne.2 h8
        clear HDR HRE HPS
        go_enter Tryd.func12, Tryd.ntmps12
        go_wp2
        go_end0
        exact ⟨rfl, g, D, HH.out, rfl, TurnedO.of_below (Below.refl _ _)⟩
/-! The next phase, or turn. -/
def nextY (T : TeamL) (y : TurnL) : TurnL := if y.phase < 8 then { y with phase := y.phase + 1 } else ⟨nextT T y.team, y.no + 1, 1, dry0⟩
def set7 (w : World) (t : Nat) (z : TurnL) : World := ((((((w.setCell ⟨t, 0, none⟩ (.int .i64 z.team)).setCell ⟨t, 1, none⟩ (.int .i64 z.no)).setCell ⟨t, 2, none⟩ (.int .i64 z.phase)).setCell ⟨t, 3, none⟩ (.bool z.laid.a)).setCell ⟨t, 4, none⟩ (.bool z.laid.b)).setCell ⟨t, 5, none⟩ (.bool z.laid.c)).setCell ⟨t, 6, none⟩ (.bool z.laid.d)
theorem set7_at {w : World} {t : Nat} {y : TurnL} (h : TurnAt w t y) (z : TurnL) : TurnAt (set7 w t z) t z := by
  have h0 := RowAt.set (xs := [.int .i64 y.team, .int .i64 y.no, .int .i64 y.phase, .bool y.laid.a, .bool y.laid.b, .bool y.laid.c, .bool y.laid.d]) h 0 (.int .i64 z.team)
  exact (((((h0.set 1 (.int .i64 z.no)).set 2 (.int .i64 z.phase)).set 3 (.bool z.laid.a)).set 4 (.bool z.laid.b)).set 5 (.bool z.laid.c)).set 6 (.bool z.laid.d)
theorem set7_size (w : World) (t : Nat) (z : TurnL) : (set7 w t z).heap.size = w.heap.size := by
  unfold set7
  simp only [World.size_setCell]
theorem set7_other (w : World) {t k : Nat} (z : TurnL) (hk : k ≠ t) : (set7 w t z).heap[k]? = w.heap[k]? := by
  unfold set7
  rw [heap_setCell_other _ ⟨t, 6, none⟩ k _ hk, heap_setCell_other _ ⟨t, 5, none⟩ k _ hk, heap_setCell_other _ ⟨t, 4, none⟩ k _ hk, heap_setCell_other _ ⟨t, 3, none⟩ k _ hk, heap_setCell_other _ ⟨t, 2, none⟩ k _ hk, heap_setCell_other _ ⟨t, 1, none⟩ k _ hk, heap_setCell_other _ ⟨t, 0, none⟩ k _ hk]
theorem sc_os (w : World) (a : Addr) (v : Value) : (w.setCell a v).os = w.os := rfl
theorem sc_tape (w : World) (a : Addr) (v : Value) : (w.setCell a v).tape = w.tape := rfl
theorem sc_output (w : World) (a : Addr) (v : Value) : (w.setCell a v).output = w.output := rfl
theorem set7_os (w : World) (t : Nat) (z : TurnL) : (set7 w t z).os = w.os ∧ (set7 w t z).tape = w.tape ∧ (set7 w t z).output = w.output := by
  unfold set7
  simp only [sc_os, sc_tape, sc_output, and_self]
theorem PhAt.set7 {w : World} {lo t : Nat} {g : GhostB} {B : BoardL} {y : TurnL} (h : PhAt w lo g B t y) (z : TurnL) : PhAt (set7 w t z) lo g B t z ∧ TurnedO w (set7 w t z) (own3 g t) (own3 g t) :=
  h.turn (Nat.le_of_eq (set7_size w t z).symm) (fun _ hk _ => set7_other w z hk) (set7_at h.tu z) (set7_os w t z)
theorem RetPh.of {w w1 : World} {lo t : Nat} {g : GhostB} {T : TeamL} {D : DryL} {y1 : TurnL} (h : TurnedO w w1 (own3 g t) (own3 g t)) {e : Ending} {w' : World} (hr : RetPh w1 lo g ⟨made13 [], T, D⟩ t y1 e w') : RetPh w lo g ⟨made13 [], T, D⟩ t y1 e w' := by
  obtain ⟨rfl, g', D', h1, h2, h3⟩ := hr
  exact ⟨rfl, g', D', h1, h2, h.trans h3⟩
set_option maxRecDepth 100000 in
set_option maxHeartbeats 16000000 in
theorem next_bare {w : World} {lo t : Nat} {g : GhostB} {T : TeamL} {D : DryL} {y : TurnL} (h : PhAt w lo g ⟨made13 [], T, D⟩ t y) (hp1 : 1 ≤ y.phase) (hp8 : y.phase ≤ 8) (hn0 : 0 ≤ y.no) (hn1 : y.no ≤ 1000000) :
    Calls Tryd.prog 7 #[.pointer (some ⟨t, 0, none⟩), .pointer (some ⟨g.q, 0, none⟩)] w (RetPh w lo g ⟨made13 [], T, D⟩ t (nextY T y)) := by
  have HH := Lib.hid h
  obtain ⟨t0, t1, t2, t3, t4, t5, t6⟩ := h.tu.cells
  obtain ⟨-, q1, -⟩ := h.bd.cells
  have tf := h.tu.free
  have HNX := Lib.hid (fun (w' : World) (hb : Below w.heap.size w w') => tnext_any (h.bd.later hb).tm y.team)
  obtain ⟨tm, no, ph, la⟩ := y
  dsimp only at t0 t1 t2 t3 t4 t5 t6 hp1 hp8 hn0 hn1 HNX
  clear h
  by_cases h8 : ph < 8
  · have e8 : decide (ph < 8) = true := decide_eq_true h8
    have hw1 : IntKind.i64.wrap (ph + 1) = ph + 1 := wrap4 (by omega) (by omega)
    have hp := HH.out.turn (w' := w.setCell ⟨t, 2, none⟩ (.int .i64 (ph + 1))) (by simp) (fun k hk _ => heap_setCell_other _ ⟨t, 2, none⟩ k _ hk) (HH.out.tu.phase2 (ph + 1)) ⟨rfl, rfl, rfl⟩
    have HBE := Lib.hid (begin_any hp.1)
    have HTU := Lib.hid hp.2
    rw [show nextY T ⟨tm, no, ph, la⟩ = ⟨tm, no, ph + 1, la⟩ from if_pos h8]
    clear hp HNX
    go_enter Tryd.func7, Tryd.ntmps7
    go_wp2_with fail
    refine HBE.out.mono ?_
    intro e w5 hr
    have hr2 := RetPh.of HTU.out hr
    obtain ⟨rfl, hr3⟩ := hr2
    clear hr HBE
    dsimp only
    go_wp2
    go_end0
    exact ⟨rfl, hr3⟩
  · obtain rfl : ph = 8 := by omega
    have hw1 : IntKind.i64.wrap (no + 1) = no + 1 := wrap4 (by omega) (by omega)
    rw [show nextY T ⟨tm, no, 8, la⟩ = ⟨nextT T tm, no + 1, 1, dry0⟩ from if_neg (show ¬((8 : Int) < 8) by decide)]
    obtain ⟨nx, hnx⟩ : ∃ nx, nextT T tm = nx := ⟨_, rfl⟩
    have HNX := Lib.hid (fun (w' : World) (hb : Below w.heap.size w w') => by have h1 := HNX.out w' hb; rw [hnx] at h1; exact h1)
    rw [hnx]
    clear hnx h8
    have hp := HH.out.set7 ⟨nx, no + 1, 1, dry0⟩
    have hpb := begin_any (hp.1.later (Below.refl _ _).drew)
    have hpt := hp.2.trans (TurnedO.of_below (Below.refl _ _).drew)
    clear hp
    obtain ⟨w7, hw7⟩ : ∃ w7, (((((((w.setCell ⟨t, 0, none⟩ (.int .i64 nx)).setCell ⟨t, 1, none⟩ (.int .i64 (no + 1))).setCell ⟨t, 2, none⟩ (.int .i64 1)).setCell ⟨t, 3, none⟩ (.bool false)).setCell ⟨t, 4, none⟩ (.bool false)).setCell ⟨t, 5, none⟩ (.bool false)).setCell ⟨t, 6, none⟩ (.bool false)).drew = w7 := ⟨_, rfl⟩
    have e7 : (set7 w t ⟨nx, no + 1, 1, dry0⟩).drew = w7 := hw7
    rw [e7] at hpb hpt
    have HBE := Lib.hid hpb
    have HTU := Lib.hid hpt
    clear hpb hpt e7
    go_enter Tryd.func7, Tryd.ntmps7
    go_upto_region 3 with fail
    (go_region_with (go_at_call 21; refine (HNX.out _ (Below.refl _ _).drew).mono ?_; rintro e w4 ⟨rfl, rfl⟩))
    all_goals (
      try rw [hw7]
      clear hw7 HNX HH t0 t1 t2 t3 t4 t5 t6 q1 tf
      go_wp2_with fail
      refine HBE.out.mono ?_
      intro e w5 hr
      have hr2 := RetPh.of HTU.out hr
      obtain ⟨rfl, hr3⟩ := hr2
      clear hr HBE
      dsimp only
      go_wp2
      go_end0
      exact ⟨rfl, hr3⟩)
end Go.Proofs.YtdlkdilgjmmlaaaDoor
