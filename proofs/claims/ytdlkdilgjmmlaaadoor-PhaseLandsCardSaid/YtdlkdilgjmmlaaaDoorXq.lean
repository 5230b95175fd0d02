/- Begin and Next of a turn (layer 15) on a board without objects. -/
import Derived.Test.YtdlkdilgjmmlaaaDoorXp
namespace Go.Proofs.YtdlkdilgjmmlaaaDoor
open Go.RowKit Go.Maps
attribute [local go_sem] Oper.semAt_some

theorem own_form1 {w : World} {lo n : Nat} {t : TypeId} {v : Value} {xs : List Value} (h : w.ownsRow lo t 1 v n xs) : ∃ xa xc, v = .slice xa n xc := by
  rcases h.2 with ⟨rfl, rfl⟩ | ⟨g, cap, cur, rfl, _⟩
  · exact ⟨none, 0, rfl⟩
  · exact ⟨some ⟨g, 0, none⟩, cap, rfl⟩
theorem bare_field : fieldL (made13 []) [] = [] := rfl
theorem bare_untap (os : List Int) : untapL (made13 []) os = made13 [] := rfl
theorem bare_fade : fadeL (made13 []) = made13 [] := rfl
theorem bare_draw (T : TeamL) (D : DryL) (k : Nat) : ∃ D', drawB ⟨made13 [], T, D⟩ k 1 = ⟨made13 [], T, D'⟩ := by
  unfold drawB
  rw [show drawnN (BoardL.mk (made13 []) T D).S k 1 = 0 from Nat.min_eq_right (Nat.zero_le _)]
  exact ⟨_, rfl⟩
theorem own_low2 {w : World} {base B : Nat} {t : TypeId} {s n : Nat} {v : Value} {xs : List Value} (h : w.ownsRow base t s v n xs) (hB : B ≤ base) : w.ownsRow B t s v n xs := by
  refine ⟨h.1, ?_⟩
  rcases h.2 with h | ⟨g, cap, cur, a1, a2, a3⟩
  · exact .inl h
  · exact .inr ⟨g, cap, cur, a1, Nat.le_trans hB a2, a3⟩
theorem wrap4 {n : Int} (h0 : 0 ≤ n) (h1 : n ≤ 10000000) : IntKind.i64.wrap n = n := by
  simp [IntKind.wrap, IntKind.signed, IntKind.bits]
  omega
theorem seat4 {w : World} {lo b s r : Nat} {T : TeamL} (h : TeamAt w lo b s r T) (k : Int) : (seatsT T k).length ≤ 4 := Nat.le_trans (upTo_len _ _) h.n1.2
theorem seat_of {T : TeamL} {k x : Int} (h : x ∈ seatsT T k) : ∃ s : Nat, s < T.sides.length ∧ x = s := by
  unfold seatsT upTo at h
  simp only [List.mem_map, List.mem_filter, List.mem_range] at h
  obtain ⟨n, ⟨h1, _⟩, rfl⟩ := h
  exact ⟨n, h1, rfl⟩
theorem keepD2 {A w w' : World} {q t tb : Nat} {tm : Int} (hb : Below w.heap.size w w') (h : Below A.heap.size A w ∧ w.cell? ⟨q, 1, none⟩ = some (.pointer (some ⟨tb, 0, none⟩)) ∧ w.cell? ⟨t, 0, none⟩ = some (.int .i64 tm)) :
    Below A.heap.size A w' ∧ w'.cell? ⟨q, 1, none⟩ = some (.pointer (some ⟨tb, 0, none⟩)) ∧ w'.cell? ⟨t, 0, none⟩ = some (.int .i64 tm) := ⟨stepB h.1 hb, cell_stays hb h.2.1, cell_stays hb h.2.2⟩
theorem keepD0 {w : World} {q t tb : Nat} {tm : Int} (h1 : w.cell? ⟨q, 1, none⟩ = some (.pointer (some ⟨tb, 0, none⟩))) (h2 : w.cell? ⟨t, 0, none⟩ = some (.int .i64 tm)) : Below w.heap.size w w ∧ w.cell? ⟨q, 1, none⟩ = some (.pointer (some ⟨tb, 0, none⟩)) ∧ w.cell? ⟨t, 0, none⟩ = some (.int .i64 tm) := ⟨Below.refl _ _, h1, h2⟩
set_option maxRecDepth 100000 in
set_option maxHeartbeats 16000000 in
theorem drawTurn_any {w : World} {lo t : Nat} {g : GhostB} {T : TeamL} {D : DryL} {y : TurnL} (h : PhAt w lo g ⟨made13 [], T, D⟩ t y) : Calls Tryd.prog 25 #[.pointer (some ⟨t, 0, none⟩), .pointer (some ⟨g.q, 0, none⟩)] w (RetPh w lo g ⟨made13 [], T, D⟩ t y) := by
  obtain ⟨tm, no, ph, la⟩ := y
  have HH := Lib.hid h
  obtain ⟨t0, t1, -⟩ := h.tu.cells
  obtain ⟨-, q1, -⟩ := h.bd.cells
  have HIN := Lib.hid (fun (w' : World) (hb : Below w.heap.size w w') => tin_any (h.bd.later hb).tm tm)
  have HSE := Lib.hid (show T.sides.length = (made13 []).seats from h.bd.se)
  obtain ⟨q, hq⟩ : ∃ q, g.q = q := ⟨_, rfl⟩
  have HQ := Lib.hid hq
  have HKE := Lib.hid (keepD0 q1 t0)
  rw [hq] at q1 HKE ⊢
  dsimp only at t0 t1
  have hle := seat4 h.bd.tm tm
  clear h hq
  by_cases hno : no = 1
  · subst hno
    clear HIN HKE
    go_enter Tryd.func25, Tryd.ntmps25
    go_wp2
    go_end0
    exact ⟨rfl, g, D, HH.out, rfl, TurnedO.of_below (Below.refl _ _)⟩
  have e1 : (no == 1) = false := beq_eq_false_iff_ne.2 hno
  obtain ⟨L, hL⟩ : ∃ L, seatsT T tm = L := ⟨_, rfl⟩
  rw [hL] at hle
  have HLE := Lib.hid hle
  have HL := Lib.hid hL
  have HIN := Lib.hid (fun (w' : World) (hb : Below w.heap.size w w') => by have h1 := HIN.out w' hb; rw [hL] at h1; exact h1)
  clear hL hle
  go_enter Tryd.func25, Tryd.ntmps25
  go_upto_region 1 with fail
  go_region_held3 (fun w' => Below w.heap.size w w' ∧ w'.cell? ⟨q, 1, none⟩ = some (.pointer (some ⟨g.tb, 0, none⟩)) ∧ w'.cell? ⟨t, 0, none⟩ = some (.int .i64 tm))
    (first | assumption | (with_reducible exact HKE.out) | exact keepD2 (Below.refl _ _).drew HKE.out | exact keepD2 (by assumption) (by assumption))
    ((go_at_call 24; refine (HIN.out _ (And.left (by assumption))).mono ?_; rintro e w4 ⟨v, rfl, hr4, hb4⟩; obtain ⟨xa, xc, rfl⟩ := own_form1 hr4; have HR4 := Lib.hid hr4))
  have HB4 := Lib.hid (And.left (show Below w.heap.size w w4 ∧ _ from by assumption))
  have HP0 := Lib.hid (HH.out.later HB4.out)
  have HT0 : Hid (TurnedO w w4 (own3 g t) (own3 g t)) := Lib.hid (TurnedO.of_below HB4.out)
  have HR0 : Hid (RepAt w4 w.heap.size (own3 g t) (.slice xa L.length xc) L) := Lib.hid ⟨own_low2 HR4.out (by simp), fun k e hk => by have h1 := (World.ownsRow.lt HR4.out k e).1; have h2 := HH.out.ownLt hk; simp at h1; omega⟩
  go_wp2
  go_loopw [21] (fun i wr => ∃ (k : Nat) (g1 : GhostB) (D1 : DryL), k ≤ L.length ∧ i = .int .i64 k ∧ Hid (PhAt wr lo g1 ⟨made13 [], T, D1⟩ t ⟨tm, no, ph, la⟩) ∧ Hid (g1.q = q) ∧ Hid (TurnedO w wr (own3 g t) (own3 g1 t)) ∧ Hid (RepAt wr w.heap.size (own3 g1 t) (.slice xa L.length xc) L)) (fun i _ => L.length - (intOf i).toNat)
  case atStart => exact ⟨0, g, D, Nat.zero_le _, rfl, HP0, HQ, HT0, HR0⟩
  case round =>
    obtain ⟨k, g1, D1, hk, rfl, HP, HQ1, HT, HR⟩ := hrel
    by_cases hlt : k < L.length
    · have e2 : decide ((k : Int) < L.length) = true := decide_eq_true (by omega)
      obtain ⟨s, hs, hx⟩ := seat_of (show L[k] ∈ seatsT T tm by rw [HL.out]; exact List.getElem_mem hlt)
      obtain ⟨r, off, hr, _, c0⟩ := (own_ints HR.out.row).at k hlt
      rw [hx] at c0
      have hw1 : IntKind.i64.wrap ((k : Int) + 1) = (k : Int) + 1 := by have := HLE.out; exact wrap4 (by omega) (by omega)
      obtain ⟨D2, hD2⟩ := bare_draw T D1 s
      have hc := draw_any HP.out.bd s (by rw [HSE.out] at hs; exact hs) 1
      rw [hD2, HQ1.out] at hc
      have HC := Lib.hid hc
      have k1 : (0 : Int) ≤ k := by omega
      have k2 : (k : Int) < L.length := by omega
      clear hc hD2 hx
      subst hr
      go_wp2_with fail
      refine HC.out.mono ?_
      rintro e w5 ⟨rfl, g2, hbd, htu, hq2⟩
      have hpb := HP.out.board hbd htu.o
      have HP5 := Lib.hid hpb.1
      have HT5 := Lib.hid (HT.out.trans hpb.2)
      have HR5 := Lib.hid (HR.out.turn hpb.2)
      have HQ5 := Lib.hid (hq2.trans HQ1.out)
      clear hbd htu hq2 hpb HC c0
      dsimp only
      go_wp2
      go_roundw
      case rel => exact ⟨k + 1, g2, D2, by omega, by go_num, HP5, HQ5, HT5, HR5⟩
      case measure => simp [intOf]; omega
    · obtain rfl : k = L.length := by omega
      have e2 : decide ((L.length : Int) < L.length) = false := decide_eq_false (by omega)
      go_wp2
      go_end0
      exact ⟨rfl, g1, D1, HP.out, HQ1.out.trans HQ.out.symm, HT.out⟩
end Go.Proofs.YtdlkdilgjmmlaaaDoor
