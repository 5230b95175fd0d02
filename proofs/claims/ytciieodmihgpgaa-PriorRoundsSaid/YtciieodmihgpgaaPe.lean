/- What a pass comes to (layer 16): turn, Pass. -/
import Derived.Test.YtciieodmihgpgaaPd
namespace Go.Proofs.Ytciieodmihgpgaa
open Go.RowKit
attribute [local go_sem] Oper.semAt_some

/-- Priority and teams: no block of theirs in common. -/
structure PT (w : World) (lo b s r t : Nat) (T : TeamL) (P : PriL) : Prop where
  tm : TeamAt w lo b s r T
  pr : PriAt w t P
  ne : b ≠ t ∧ s ≠ t ∧ r ≠ t
theorem PT.later {w w' : World} {lo b s r t : Nat} {T : TeamL} {P : PriL} (h : PT w lo b s r t T P) (hb : Below w.heap.size w w') : PT w' lo b s r t T P := ⟨h.tm.later hb, h.pr.later hb, h.ne⟩
theorem PT.ret {w w' : World} {lo b s r t : Nat} {T : TeamL} {P Q : PriL} (h : PT w lo b s r t T P) (hp : PriAt w' t Q) (hg : w.grownBy w' (some t)) : PT w' lo b s r t T Q := ⟨h.tm.grown hg h.ne.1 h.ne.2.1 h.ne.2.2, hp, h.ne⟩
theorem seat_in {w : World} {lo b s r : Nat} {T : TeamL} (h : TeamAt w lo b s r T) (k x : Int) (hx : x ∈ seatsT T k) : 0 ≤ x ∧ x < 4 := by
  unfold seatsT upTo at hx
  obtain ⟨n, hn, rfl⟩ := List.mem_map.1 hx
  have h1 := List.mem_range.1 (List.mem_filter.1 hn).1
  have h2 := h.n1
  omega
theorem seats_few {w : World} {lo b s r : Nat} {T : TeamL} (h : TeamAt w lo b s r T) (k : Int) : (seatsT T k).length ≤ 4 := Nat.le_trans (upTo_len _ _) h.n1.2
/-- The next team's turn: what priority is then, and what came of it. -/
def turnP (T : TeamL) (P : PriL) : PriL × Int := if leftN T P.team ≤ P.row + 1 then (⟨nextT T P.team, 0, no4⟩, 2) else (⟨nextT T P.team, P.row + 1, no4⟩, 1)
theorem PriAt.row2 {w : World} {t : Nat} {P : PriL} (h : PriAt w t P) (x : Int) : PriAt (w.setCell ⟨t, 1, none⟩ (.int .i64 x)) t ⟨P.team, x, P.p⟩ := RowAt.set (xs := [.int .i64 P.team, .int .i64 P.row, .bool P.p.a, .bool P.p.b, .bool P.p.c, .bool P.p.d]) h 1 (.int .i64 x)
set_option maxRecDepth 100000 in
set_option maxHeartbeats 16000000 in
theorem turn_any {w : World} {lo b s r t : Nat} {T : TeamL} {P : PriL} (h : PT w lo b s r t T P) (h0 : 0 ≤ P.row) (h1 : P.row ≤ 1000) :
    Calls Try.prog 24 #[.pointer (some ⟨t, 0, none⟩), .pointer (some ⟨b, 0, none⟩)] w (RetP w t (.int .i64 (turnP T P).2) (turnP T P).1) := by
  have HLE := Lib.hid (fun (w' : World) (hb : Below w.heap.size w w') => left_any (h.tm.later hb) (h.pr.later hb))
  have HNX := Lib.hid (fun (w' : World) (hb : Below w.heap.size w w') => tnext_any (h.tm.later hb) P.team)
  have HRE := Lib.hid (fun (w' : World) (hb : Below w.heap.size w w') (x : Int) => resetP_any (h.pr.later hb) x)
  obtain ⟨c0, c1, -⟩ := h.pr.cells
  have hw1 : IntKind.i64.wrap (P.row + 1) = P.row + 1 := by rw [IntKind.wrap_i64]; omega
  have HT2 : Hid (turnP T P = if leftN T P.team ≤ P.row + 1 then (⟨nextT T P.team, 0, no4⟩, 2) else (⟨nextT T P.team, P.row + 1, no4⟩, 1)) := Lib.hid rfl
  obtain ⟨tp, htp⟩ : ∃ tp, turnP T P = tp := ⟨_, rfl⟩
  rw [htp] at HT2 ⊢
  obtain ⟨tm, ht⟩ : ∃ tm, P.team = tm := ⟨_, rfl⟩
  obtain ⟨ro, hr⟩ : ∃ ro, P.row = ro := ⟨_, rfl⟩
  obtain ⟨le, hl⟩ : ∃ le, leftN T P.team = le := ⟨_, rfl⟩
  obtain ⟨nx, hn⟩ : ∃ nx, nextT T P.team = nx := ⟨_, rfl⟩
  rw [hl] at HLE HT2
  rw [hn] at HNX HT2
  rw [ht] at c0 HNX
  rw [hr] at c1 hw1 HT2
  clear htp ht hr hl hn h h0 h1
  obtain ⟨z, hz⟩ : ∃ z : Bool, decide (le ≤ ro + 1) = z := ⟨_, rfl⟩
  have HZ := Lib.hid hz
  clear hz
  go_enter Try.func24, Try.ntmps24
  go_upto_region 1 with fail
  (go_region_with (go_at_call 30; refine (HLE.out _ (Below.refl _ _).drew).mono ?_; rintro e w4 ⟨rfl, hb4⟩; have c14 := cell_stays hb4 c1; have c04 := cell_stays hb4 c0))
  all_goals (
    have HB4 := Lib.hid (stepB (Below.refl _ _).drew hb4)
    clear hb4 c0 c1 c14 HLE
    go_wp2_with fail
    refine (HNX.out w4 HB4.out).mono ?_
    rintro e w5 ⟨rfl, rfl⟩
    dsimp only
    go_wp2_with fail
    refine (HRE.out w5 HB4.out nx).mono ?_
    rintro e w6 ⟨rfl, hp6, hg6⟩
    have HP6 := Lib.hid hp6
    have HG6 := Lib.hid (grown_trans (grown_below HB4.out) hg6)
    have f6 := hp6.free 1
    have c16 := hp6.cells.2.1
    clear hp6 hg6 c04 HRE HNX
    dsimp only at c16 ⊢
    cases z
    · have d0 := HZ.out
      have HTP := Lib.hid (HT2.out.trans (if_neg (of_decide_eq_false HZ.out)))
      go_wp2
      go_ret
      rw [HTP.out]
      exact ⟨rfl, HP6.out.row2 (ro + 1), grown_trans HG6.out (grown_set _ t 1 _)⟩
    · have d0 := HZ.out
      have HTP := Lib.hid (HT2.out.trans (if_pos (of_decide_eq_true HZ.out)))
      go_wp2
      go_ret
      rw [HTP.out]
      exact ⟨rfl, HP6.out, HG6.out⟩)
/-- What priority is behind a pass of a seat that may, and what came of it. -/
def passP (T : TeamL) (P : PriL) (x : Int) : PriL × Int := if anyW (P.p.put x) (seatsT T P.team) then (⟨P.team, P.row, P.p.put x⟩, 0) else turnP T ⟨P.team, P.row, P.p.put x⟩
theorem PriAt.put {w : World} {t : Nat} {P : PriL} (h : PriAt w t P) :
    PriAt (w.setCell ⟨t, 2, none⟩ (.bool true)) t ⟨P.team, P.row, P.p.put 0⟩ ∧ PriAt (w.setCell ⟨t, 3, none⟩ (.bool true)) t ⟨P.team, P.row, P.p.put 1⟩ ∧
    PriAt (w.setCell ⟨t, 4, none⟩ (.bool true)) t ⟨P.team, P.row, P.p.put 2⟩ ∧ PriAt (w.setCell ⟨t, 5, none⟩ (.bool true)) t ⟨P.team, P.row, P.p.put 3⟩ :=
  ⟨RowAt.set (xs := [.int .i64 P.team, .int .i64 P.row, .bool P.p.a, .bool P.p.b, .bool P.p.c, .bool P.p.d]) h 2 (.bool true), RowAt.set (xs := [.int .i64 P.team, .int .i64 P.row, .bool P.p.a, .bool P.p.b, .bool P.p.c, .bool P.p.d]) h 3 (.bool true), RowAt.set (xs := [.int .i64 P.team, .int .i64 P.row, .bool P.p.a, .bool P.p.b, .bool P.p.c, .bool P.p.d]) h 4 (.bool true), RowAt.set (xs := [.int .i64 P.team, .int .i64 P.row, .bool P.p.a, .bool P.p.b, .bool P.p.c, .bool P.p.d]) h 5 (.bool true)⟩
theorem may_seat {w : World} {lo b s r : Nat} {T : TeamL} {P : PriL} (h : TeamAt w lo b s r T) {x : Int} (hm : mayP T P x = true) : 0 ≤ x ∧ x < 4 := by
  unfold mayP at hm
  rw [Bool.and_eq_true, Bool.and_eq_true, beq_iff_eq, Bool.not_eq_true'] at hm
  exact of_seat h (by rw [hm.1]; exact lost_in hm.2.1)
set_option maxRecDepth 100000 in
theorem pass_no {w : World} {lo b s r t : Nat} {T : TeamL} {P : PriL} (h : PT w lo b s r t T P) {x : Int} (hm : mayP T P x = false) :
    Calls Try.prog 12 #[.pointer (some ⟨t, 0, none⟩), .pointer (some ⟨b, 0, none⟩), .int .i64 x] w (RetP w t (.tuple #[.int .i64 0, .int .i64 14]) P) := by
  have HP := Lib.hid h.pr
  have HM := Lib.hid (refused_any h.tm h.pr x)
  rw [hm] at HM
  clear hm h
  go_enter Try.func12, Try.ntmps12
  go_wp2_with fail
  refine HM.out.mono ?_
  rintro e w2 ⟨rfl, hb⟩
  have HB := Lib.hid hb
  clear hb HM
  dsimp only
  go_wp2
  go_ret2
  exact ⟨rfl, HP.out.later HB.out, grown_below HB.out⟩
set_option maxRecDepth 100000 in
set_option maxHeartbeats 16000000 in
theorem pass_yes {w : World} {lo b s r t : Nat} {T : TeamL} {P : PriL} (h : PT w lo b s r t T P) {x : Int} (hm : mayP T P x = true) (h0 : 0 ≤ P.row) (h1 : P.row ≤ 1000) :
    Calls Try.prog 12 #[.pointer (some ⟨t, 0, none⟩), .pointer (some ⟨b, 0, none⟩), .int .i64 x] w (RetP w t (.tuple #[.int .i64 (passP T P x).2, .int .i64 0]) (passP T P x).1) := by
  have hx4 := may_seat h.tm hm
  have HM := Lib.hid (refused_any h.tm h.pr x)
  rw [hm] at HM
  have HR1 := Lib.hid (show 0 ≤ P.row ∧ P.row ≤ 1000 from ⟨h0, h1⟩)
  have HH := Lib.hid h
  clear hm h h0 h1
  have HPT : Hid (∀ w2, Below w.heap.size w w2 → ∀ (k : Nat), k = 2 ∧ x = 0 ∨ k = 3 ∧ x = 1 ∨ k = 4 ∧ x = 2 ∨ k = 5 ∧ x = 3 → PT (w2.setCell ⟨t, k, none⟩ (.bool true)) lo b s r t T ⟨P.team, P.row, P.p.put x⟩ ∧ w.grownBy (w2.setCell ⟨t, k, none⟩ (.bool true)) (some t)) := Lib.hid (by
    intro w2 hb k hk
    have h2 := HH.out.later hb
    have h3 := h2.pr.put
    rcases hk with ⟨rfl, rfl⟩ | ⟨rfl, rfl⟩ | ⟨rfl, rfl⟩ | ⟨rfl, rfl⟩
    · exact ⟨h2.ret h3.1 (grown_set _ t _ _), grown_trans (grown_below hb) (grown_set _ t _ _)⟩
    · exact ⟨h2.ret h3.2.1 (grown_set _ t _ _), grown_trans (grown_below hb) (grown_set _ t _ _)⟩
    · exact ⟨h2.ret h3.2.2.1 (grown_set _ t _ _), grown_trans (grown_below hb) (grown_set _ t _ _)⟩
    · exact ⟨h2.ret h3.2.2.2 (grown_set _ t _ _), grown_trans (grown_below hb) (grown_set _ t _ _)⟩)
  have HFR : Hid (∀ w2, Below w.heap.size w w2 → ∀ j, w2.frozen? ⟨t, j, none⟩ = false) := Lib.hid (fun w2 hb j => (HH.out.pr.later hb).free j)
  have HCE : Hid (∀ w2, Below w.heap.size w w2 → w2.cell? ⟨t, 2, none⟩ = some (.bool P.p.a) ∧ w2.cell? ⟨t, 3, none⟩ = some (.bool P.p.b) ∧ w2.cell? ⟨t, 4, none⟩ = some (.bool P.p.c) ∧ w2.cell? ⟨t, 5, none⟩ = some (.bool P.p.d)) := Lib.hid (fun w2 hb => (HH.out.pr.later hb).cells.2.2)
  have HPP : Hid (passP T P x = if anyW (P.p.put x) (seatsT T P.team) then (⟨P.team, P.row, P.p.put x⟩, 0) else turnP T ⟨P.team, P.row, P.p.put x⟩) := Lib.hid rfl
  obtain ⟨Q, hQ⟩ : ∃ Q : PriL, (⟨P.team, P.row, P.p.put x⟩ : PriL) = Q := ⟨_, rfl⟩
  have hQt : P.team = Q.team := by rw [← hQ]
  have hQp : P.p.put x = Q.p := by rw [← hQ]
  have HR2 : Hid (0 ≤ Q.row ∧ Q.row ≤ 1000) := Lib.hid (by rw [← hQ]; exact HR1.out)
  rw [hQ] at HPT HPP
  rw [hQp, hQt] at HPP
  obtain ⟨pp, hpp⟩ : ∃ pp, passP T P x = pp := ⟨_, rfl⟩
  rw [hpp] at HPP ⊢
  clear HH hQ hQt hQp hpp HR1
  rcases four_cases hx4.1 hx4.2 with rfl | rfl | rfl | rfl
  · clear hx4
    go_enter Try.func12, Try.ntmps12
    go_wp2_with fail
    refine HM.out.mono ?_
    rintro e w2 ⟨rfl, hb⟩
    have hf := HFR.out w2 hb
    obtain ⟨z0, z1, z2, z3⟩ := HCE.out w2 hb
    have hp3 := HPT.out w2 hb 2 (by simp)
    clear hb HM HFR HCE HPT
    dsimp only
    go_upto_region 5 with fail
    clear z0 z1 z2 z3 hf
    obtain ⟨w3, hw3⟩ : ∃ w3, w2.setCell ⟨t, 2, none⟩ (.bool true) = w3 := ⟨_, rfl⟩
    rw [hw3] at hp3 ⊢
    clear hw3
    obtain ⟨hp3, hg3⟩ := hp3
    have HG3 := Lib.hid hg3
    have HP3 := Lib.hid hp3
    have HIN := Lib.hid (tin_any hp3.tm Q.team)
    have c0 := hp3.pr.cells.1
    clear hp3 hg3
    have hmf := @mk_func
    obtain ⟨qt, hqt⟩ : ∃ qt, Q.team = qt := ⟨_, rfl⟩
    rw [hqt] at c0 HIN HPP
    go_wp2_with fail
    refine HIN.out.mono ?_
    rintro e w4 ⟨v, rfl, hr4, hb4⟩
    have HP4 := Lib.hid (HP3.out.later hb4)
    have HG4 := Lib.hid (grown_trans HG3.out (grown_below hb4))
    have HCF := Lib.hid (containsF_any HP4.out.pr (own_ints hr4) (Nat.le_trans (seats_few HP4.out.tm qt) (by decide)) (seat_in HP4.out.tm qt))
    have HTU := Lib.hid (turn_any HP4.out HR2.out.1 HR2.out.2)
    clear hr4 hb4 HIN HP3 HG3 c0
    unfold waitsF at HCF
    obtain ⟨z, hz⟩ : ∃ z, anyW Q.p (seatsT T qt) = z := ⟨_, rfl⟩
    rw [hz] at HCF HPP
    clear hz hqt
    dsimp only
    cases z
    · have HPP := Lib.hid (HPP.out.trans (if_neg Bool.false_ne_true))
      go_wp2_with fail
      refine HCF.out.mono ?_
      rintro e w5 ⟨rfl, rfl⟩
      dsimp only
      go_wp2_with fail
      refine HTU.out.mono ?_
      rintro e w6 ⟨rfl, hp6, hg6⟩
      have HP6 := Lib.hid hp6
      have HG6 := Lib.hid (grown_trans HG4.out hg6)
      clear hp6 hg6 HTU HCF
      dsimp only
      go_wp2
      go_ret2
      rw [HPP.out]
      exact ⟨rfl, HP6.out, HG6.out⟩
    · have HPP := Lib.hid (HPP.out.trans (if_pos rfl))
      go_wp2_with fail
      refine HCF.out.mono ?_
      rintro e w5 ⟨rfl, rfl⟩
      dsimp only
      go_wp2
      go_ret2
      rw [HPP.out]
      exact ⟨rfl, HP4.out.pr, HG4.out⟩
  · clear hx4
    go_enter Try.func12, Try.ntmps12
    go_wp2_with fail
    refine HM.out.mono ?_
    rintro e w2 ⟨rfl, hb⟩
    have hf := HFR.out w2 hb
    obtain ⟨z0, z1, z2, z3⟩ := HCE.out w2 hb
    have hp3 := HPT.out w2 hb 3 (by simp)
    clear hb HM HFR HCE HPT
    dsimp only
    go_upto_region 5 with fail
    clear z0 z1 z2 z3 hf
    obtain ⟨w3, hw3⟩ : ∃ w3, w2.setCell ⟨t, 3, none⟩ (.bool true) = w3 := ⟨_, rfl⟩
    rw [hw3] at hp3 ⊢
    clear hw3
    obtain ⟨hp3, hg3⟩ := hp3
    have HG3 := Lib.hid hg3
    have HP3 := Lib.hid hp3
    have HIN := Lib.hid (tin_any hp3.tm Q.team)
    have c0 := hp3.pr.cells.1
    clear hp3 hg3
    have hmf := @mk_func
    obtain ⟨qt, hqt⟩ : ∃ qt, Q.team = qt := ⟨_, rfl⟩
    rw [hqt] at c0 HIN HPP
    go_wp2_with fail
    refine HIN.out.mono ?_
    rintro e w4 ⟨v, rfl, hr4, hb4⟩
    have HP4 := Lib.hid (HP3.out.later hb4)
    have HG4 := Lib.hid (grown_trans HG3.out (grown_below hb4))
    have HCF := Lib.hid (containsF_any HP4.out.pr (own_ints hr4) (Nat.le_trans (seats_few HP4.out.tm qt) (by decide)) (seat_in HP4.out.tm qt))
    have HTU := Lib.hid (turn_any HP4.out HR2.out.1 HR2.out.2)
    clear hr4 hb4 HIN HP3 HG3 c0
    unfold waitsF at HCF
    obtain ⟨z, hz⟩ : ∃ z, anyW Q.p (seatsT T qt) = z := ⟨_, rfl⟩
    rw [hz] at HCF HPP
    clear hz hqt
    dsimp only
    cases z
    · have HPP := Lib.hid (HPP.out.trans (if_neg Bool.false_ne_true))
      go_wp2_with fail
      refine HCF.out.mono ?_
      rintro e w5 ⟨rfl, rfl⟩
      dsimp only
      go_wp2_with fail
      refine HTU.out.mono ?_
      rintro e w6 ⟨rfl, hp6, hg6⟩
      have HP6 := Lib.hid hp6
      have HG6 := Lib.hid (grown_trans HG4.out hg6)
      clear hp6 hg6 HTU HCF
      dsimp only
      go_wp2
      go_ret2
      rw [HPP.out]
      exact ⟨rfl, HP6.out, HG6.out⟩
    · have HPP := Lib.hid (HPP.out.trans (if_pos rfl))
      go_wp2_with fail
      refine HCF.out.mono ?_
      rintro e w5 ⟨rfl, rfl⟩
      dsimp only
      go_wp2
      go_ret2
      rw [HPP.out]
      exact ⟨rfl, HP4.out.pr, HG4.out⟩
  · clear hx4
    go_enter Try.func12, Try.ntmps12
    go_wp2_with fail
    refine HM.out.mono ?_
    rintro e w2 ⟨rfl, hb⟩
    have hf := HFR.out w2 hb
    obtain ⟨z0, z1, z2, z3⟩ := HCE.out w2 hb
    have hp3 := HPT.out w2 hb 4 (by simp)
    clear hb HM HFR HCE HPT
    dsimp only
    go_upto_region 5 with fail
    clear z0 z1 z2 z3 hf
    obtain ⟨w3, hw3⟩ : ∃ w3, w2.setCell ⟨t, 4, none⟩ (.bool true) = w3 := ⟨_, rfl⟩
    rw [hw3] at hp3 ⊢
    clear hw3
    obtain ⟨hp3, hg3⟩ := hp3
    have HG3 := Lib.hid hg3
    have HP3 := Lib.hid hp3
    have HIN := Lib.hid (tin_any hp3.tm Q.team)
    have c0 := hp3.pr.cells.1
    clear hp3 hg3
    have hmf := @mk_func
    obtain ⟨qt, hqt⟩ : ∃ qt, Q.team = qt := ⟨_, rfl⟩
    rw [hqt] at c0 HIN HPP
    go_wp2_with fail
    refine HIN.out.mono ?_
    rintro e w4 ⟨v, rfl, hr4, hb4⟩
    have HP4 := Lib.hid (HP3.out.later hb4)
    have HG4 := Lib.hid (grown_trans HG3.out (grown_below hb4))
    have HCF := Lib.hid (containsF_any HP4.out.pr (own_ints hr4) (Nat.le_trans (seats_few HP4.out.tm qt) (by decide)) (seat_in HP4.out.tm qt))
    have HTU := Lib.hid (turn_any HP4.out HR2.out.1 HR2.out.2)
    clear hr4 hb4 HIN HP3 HG3 c0
    unfold waitsF at HCF
    obtain ⟨z, hz⟩ : ∃ z, anyW Q.p (seatsT T qt) = z := ⟨_, rfl⟩
    rw [hz] at HCF HPP
    clear hz hqt
    dsimp only
    cases z
    · have HPP := Lib.hid (HPP.out.trans (if_neg Bool.false_ne_true))
      go_wp2_with fail
      refine HCF.out.mono ?_
      rintro e w5 ⟨rfl, rfl⟩
      dsimp only
      go_wp2_with fail
      refine HTU.out.mono ?_
      rintro e w6 ⟨rfl, hp6, hg6⟩
      have HP6 := Lib.hid hp6
      have HG6 := Lib.hid (grown_trans HG4.out hg6)
      clear hp6 hg6 HTU HCF
      dsimp only
      go_wp2
      go_ret2
      rw [HPP.out]
      exact ⟨rfl, HP6.out, HG6.out⟩
    · have HPP := Lib.hid (HPP.out.trans (if_pos rfl))
      go_wp2_with fail
      refine HCF.out.mono ?_
      rintro e w5 ⟨rfl, rfl⟩
      dsimp only
      go_wp2
      go_ret2
      rw [HPP.out]
      exact ⟨rfl, HP4.out.pr, HG4.out⟩
  · clear hx4
    go_enter Try.func12, Try.ntmps12
    go_wp2_with fail
    refine HM.out.mono ?_
    rintro e w2 ⟨rfl, hb⟩
    have hf := HFR.out w2 hb
    obtain ⟨z0, z1, z2, z3⟩ := HCE.out w2 hb
    have hp3 := HPT.out w2 hb 5 (by simp)
    clear hb HM HFR HCE HPT
    dsimp only
    go_upto_region 5 with fail
    clear z0 z1 z2 z3 hf
    obtain ⟨w3, hw3⟩ : ∃ w3, w2.setCell ⟨t, 5, none⟩ (.bool true) = w3 := ⟨_, rfl⟩
    rw [hw3] at hp3 ⊢
    clear hw3
    obtain ⟨hp3, hg3⟩ := hp3
    have HG3 := Lib.hid hg3
    have HP3 := Lib.hid hp3
    have HIN := Lib.hid (tin_any hp3.tm Q.team)
    have c0 := hp3.pr.cells.1
    clear hp3 hg3
    have hmf := @mk_func
    obtain ⟨qt, hqt⟩ : ∃ qt, Q.team = qt := ⟨_, rfl⟩
    rw [hqt] at c0 HIN HPP
    go_wp2_with fail
    refine HIN.out.mono ?_
    rintro e w4 ⟨v, rfl, hr4, hb4⟩
    have HP4 := Lib.hid (HP3.out.later hb4)
    have HG4 := Lib.hid (grown_trans HG3.out (grown_below hb4))
    have HCF := Lib.hid (containsF_any HP4.out.pr (own_ints hr4) (Nat.le_trans (seats_few HP4.out.tm qt) (by decide)) (seat_in HP4.out.tm qt))
    have HTU := Lib.hid (turn_any HP4.out HR2.out.1 HR2.out.2)
    clear hr4 hb4 HIN HP3 HG3 c0
    unfold waitsF at HCF
    obtain ⟨z, hz⟩ : ∃ z, anyW Q.p (seatsT T qt) = z := ⟨_, rfl⟩
    rw [hz] at HCF HPP
    clear hz hqt
    dsimp only
    cases z
    · have HPP := Lib.hid (HPP.out.trans (if_neg Bool.false_ne_true))
      go_wp2_with fail
      refine HCF.out.mono ?_
      rintro e w5 ⟨rfl, rfl⟩
      dsimp only
      go_wp2_with fail
      refine HTU.out.mono ?_
      rintro e w6 ⟨rfl, hp6, hg6⟩
      have HP6 := Lib.hid hp6
      have HG6 := Lib.hid (grown_trans HG4.out hg6)
      clear hp6 hg6 HTU HCF
      dsimp only
      go_wp2
      go_ret2
      rw [HPP.out]
      exact ⟨rfl, HP6.out, HG6.out⟩
    · have HPP := Lib.hid (HPP.out.trans (if_pos rfl))
      go_wp2_with fail
      refine HCF.out.mono ?_
      rintro e w5 ⟨rfl, rfl⟩
      dsimp only
      go_wp2
      go_ret2
      rw [HPP.out]
      exact ⟨rfl, HP4.out.pr, HG4.out⟩
