/- Two priorities compared; Reset, Act, Copy, Passed; what is answered of none (layer 16). -/
import Derived.Test.YtciieodmihgpgaaPa
import Derived.Laws.StructEq
namespace Go.Proofs.Ytciieodmihgpgaa
open Go.RowKit
attribute [local go_sem] Oper.semAt_some

theorem partB0 (a b c d : Value) (W : World) : (part 4 #[a, b, c, d] 0).run Try.prog W = .ok a W := by kernel_rfl
theorem partB1 (a b c d : Value) (W : World) : (part 4 #[a, b, c, d] 1).run Try.prog W = .ok b W := by kernel_rfl
theorem partB2 (a b c d : Value) (W : World) : (part 4 #[a, b, c, d] 2).run Try.prog W = .ok c W := by kernel_rfl
theorem partB3 (a b c d : Value) (W : World) : (part 4 #[a, b, c, d] 3).run Try.prog W = .ok d W := by kernel_rfl
theorem eqBl (d : Nat) (x y : Bool) (w : World) : (Op.equalIn (d + 1) 4 (.bool x) (.bool y)).run Try.prog w = .ok (x == y) w := run_equalIn_bool w d 4 x y Try.underlying4
theorem sizeBl (w : World) : (sizeOf 4).run Try.prog w = .ok 1 w := by kernel_rfl
set_option maxRecDepth 100000 in
theorem equalB4 (n : Nat) (a b c d a' b' c' d' : Bool) (W : World) : (Op.equalIn (n + 2) 50 (.agg #[.bool a, .bool b, .bool c, .bool d]) (.agg #[.bool a', .bool b', .bool c', .bool d'])).run Try.prog W = .ok (a == a' && (b == b' && (c == c' && d == d'))) W := by
  generalize hX : #[Value.bool a, .bool b, .bool c, .bool d] = X
  generalize hY : #[Value.bool a', .bool b', .bool c', .bool d'] = Y
  have p0 := fun W => hX ▸ partB0 (.bool a) (.bool b) (.bool c) (.bool d) W
  have p1 := fun W => hX ▸ partB1 (.bool a) (.bool b) (.bool c) (.bool d) W
  have p2 := fun W => hX ▸ partB2 (.bool a) (.bool b) (.bool c) (.bool d) W
  have p3 := fun W => hX ▸ partB3 (.bool a) (.bool b) (.bool c) (.bool d) W
  have q0 := fun W => hY ▸ partB0 (.bool a') (.bool b') (.bool c') (.bool d') W
  have q1 := fun W => hY ▸ partB1 (.bool a') (.bool b') (.bool c') (.bool d') W
  have q2 := fun W => hY ▸ partB2 (.bool a') (.bool b') (.bool c') (.bool d') W
  have q3 := fun W => hY ▸ partB3 (.bool a') (.bool b') (.bool c') (.bool d') W
  clear hX hY
  rw [Op.equalIn]
  simp only [Sem.run_bind, run_underlying Try.underlying50, Result.andThen_ok, sizeBl]
  rw [Std.Legacy.Range.forIn_eq_forIn_range']
  simp only [Std.Legacy.Range.size, Nat.sub_zero, Nat.add_sub_cancel, Nat.div_one, List.range', List.forIn_cons, List.forIn_nil, Nat.mul_one, Nat.zero_add, Sem.run_bind, p0, q0, Result.andThen_ok, eqBl]
  by_cases h0 : a = a' <;> by_cases h1 : b = b' <;> by_cases h2 : c = c' <;> by_cases h3 : d = d' <;> simp [h0, h1, h2, h3, p1, p2, p3, q1, q2, q3, eqBl]
theorem eqgB4 (x y : Operand) (xs ys : Array Value) (W : World) : (eqGuard .eql 50 x y (.agg xs) (.agg ys)).run Try.prog W = .ok () W := run_eqGuard_agg W .eql 50 x y xs ys (by kernel_rfl)

def eqF (x y : Four) : Bool := x.a == y.a && (x.b == y.b && (x.c == y.c && x.d == y.d))
def eqP (P Q : PriL) : Bool := P.team == Q.team && (P.row == Q.row && eqF P.p Q.p)
theorem eqF_iff (x y : Four) : eqF x y = true ↔ x = y := by
  obtain ⟨a, b, c, d⟩ := x
  obtain ⟨a', b', c', d'⟩ := y
  simp [eqF]
theorem eqP_iff (P Q : PriL) : eqP P Q = true ↔ P = Q := by
  obtain ⟨a, b, c⟩ := P
  obtain ⟨a', b', c'⟩ := Q
  simp [eqP, eqF_iff]
set_option maxRecDepth 100000 in
theorem eqPri (n : Nat) (P Q : PriL) (W : World) : (Op.equalIn (n + 4) 52 (.agg #[.int .i64 P.team, .int .i64 P.row, .bool P.p.a, .bool P.p.b, .bool P.p.c, .bool P.p.d]) (.agg #[.int .i64 Q.team, .int .i64 Q.row, .bool Q.p.a, .bool Q.p.b, .bool Q.p.c, .bool Q.p.d])).run Try.prog W = .ok (eqP P Q) W := by
  have h4 := fun (n : Nat) (W : World) => equalB4 n P.p.a P.p.b P.p.c P.p.d Q.p.a Q.p.b Q.p.c Q.p.d W
  have uI := Try.underlying3
  have gI := Try.isAgg3
  have zI := Try.sizeOf3
  have gA := Try.isAgg50
  have zA := Try.sizeOf50
  have hS : Try.prog.underlying 52 = some (.struct (Try.prog.fieldsOf 52)) := by kernel_rfl
  rw [run_equalIn_agg W (n + 3) 52 _ _ hS (by kernel_rfl)]
  simp only [Program.fieldsOf, Try.underlying52]
  obtain ⟨t, r, a, b, c, d⟩ := P
  obtain ⟨t', r', a', b', c', d'⟩ := Q
  unfold eqP eqF
  dsimp only at h4 ⊢
  by_cases e1 : t = t'
  · have e1 : (t == t') = true := beq_iff_eq.2 e1
    by_cases e2 : r = r'
    · have e2 : (r == r') = true := beq_iff_eq.2 e2
      rw [e1, e2, Bool.true_and, Bool.true_and]
      obtain ⟨z, hz⟩ : ∃ z, (a == a' && (b == b' && (c == c' && d == d'))) = z := ⟨_, rfl⟩
      rw [hz]
      simp only [hz] at h4
      clear hz
      cases z
      all_goals go_simp
    · have e2 : (r == r') = false := beq_eq_false_iff_ne.2 e2
      rw [e1, e2, Bool.false_and, Bool.and_false]
      go_simp
  · have e1 : (t == t') = false := beq_eq_false_iff_ne.2 e1
    rw [e1, Bool.false_and]
    go_simp
theorem eqlPri (P Q : PriL) (W : World) : (binOp .eql 52 (.agg #[.int .i64 P.team, .int .i64 P.row, .bool P.p.a, .bool P.p.b, .bool P.p.c, .bool P.p.d]) (.agg #[.int .i64 Q.team, .int .i64 Q.row, .bool Q.p.a, .bool Q.p.b, .bool Q.p.c, .bool Q.p.d])).run Try.prog W = .ok (.bool (eqP P Q)) W := by
  rw [run_eql_struct, eqPri 9996]
  rfl
theorem eqlgP (x y : Operand) (xs ys : Array Value) (W : World) : (eqGuard .eql 52 x y (.agg xs) (.agg ys)).run Try.prog W = .ok () W := run_eqGuard_agg W .eql 52 x y xs ys (by kernel_rfl)
set_option maxRecDepth 100000 in
theorem sameP_any {w : World} {t u : Nat} {P Q : PriL} (h : PriAt w t P) (k : PriAt w u Q) : Calls Try.prog 15 #[.pointer (some ⟨t, 0, none⟩), .pointer (some ⟨u, 0, none⟩)] w (RetV w (.bool (eqP P Q))) := by
  obtain ⟨c0, c1, c2, c3, c4, c5⟩ := h.cells
  obtain ⟨d0, d1, d2, d3, d4, d5⟩ := k.cells
  have h3 := fun W => eqlPri P Q W
  have h2 := @eqlgP
  clear h k
  go_enter Try.func15, Try.ntmps15
  go_wp2
  go_quiet (fail)
  go_wp2
  go_ret
  exact ⟨rfl, below_drewN (Below.refl _ _) _⟩
set_option maxRecDepth 100000 in
theorem copyP_any {w : World} {t : Nat} {P : PriL} (h : PriAt w t P) : Calls Try.prog 14 #[.pointer (some ⟨t, 0, none⟩)] w (fun e w' => e = .returned (.pointer (some ⟨w.heap.size, 0, none⟩)) ∧ PriAt w' w.heap.size P ∧ Below w.heap.size w w') := by
  obtain ⟨c0, c1, c2, c3, c4, c5⟩ := h.cells
  clear h
  go_enter Try.func14, Try.ntmps14
  go_wp2
  go_ret
  exact ⟨rfl, heap_alloc_new w _, below_new w _⟩
/-! Reset, Act. -/
def set6 (w : World) (t : Nat) (P : PriL) : World := (((((w.setCell ⟨t, 0, none⟩ (.int .i64 P.team)).setCell ⟨t, 1, none⟩ (.int .i64 P.row)).setCell ⟨t, 2, none⟩ (.bool P.p.a)).setCell ⟨t, 3, none⟩ (.bool P.p.b)).setCell ⟨t, 4, none⟩ (.bool P.p.c)).setCell ⟨t, 5, none⟩ (.bool P.p.d)
theorem set6_at {w : World} {t : Nat} {P : PriL} (h : PriAt w t P) (Q : PriL) : PriAt (set6 w t Q) t Q := by
  have h0 := RowAt.set (xs := [.int .i64 P.team, .int .i64 P.row, .bool P.p.a, .bool P.p.b, .bool P.p.c, .bool P.p.d]) h 0 (.int .i64 Q.team)
  exact ((((h0.set 1 (.int .i64 Q.row)).set 2 (.bool Q.p.a)).set 3 (.bool Q.p.b)).set 4 (.bool Q.p.c)).set 5 (.bool Q.p.d)
theorem set6_grown (w : World) (t : Nat) (Q : PriL) : w.grownBy (set6 w t Q) (some t) := by
  unfold set6
  exact grown_trans (grown_trans (grown_trans (grown_trans (grown_trans (grown_set w t 0 _) (grown_set _ t 1 _)) (grown_set _ t 2 _)) (grown_set _ t 3 _)) (grown_set _ t 4 _)) (grown_set _ t 5 _)
set_option maxRecDepth 100000 in
theorem resetP_any {w : World} {t : Nat} {P : PriL} (h : PriAt w t P) (x : Int) : Calls Try.prog 16 #[.pointer (some ⟨t, 0, none⟩), .int .i64 x] w (RetP w t (.tuple #[]) ⟨x, 0, no4⟩) := by
  obtain ⟨c0, c1, c2, c3, c4, c5⟩ := h.cells
  have f := h.free
  have HA := Lib.hid (show PriAt (set6 w t ⟨x, 0, no4⟩) t ⟨x, 0, no4⟩ ∧ w.grownBy (set6 w t ⟨x, 0, no4⟩) (some t) from ⟨set6_at h _, set6_grown w t _⟩)
  clear h
  go_enter Try.func16, Try.ntmps16
  go_wp2
  go_end0
  exact ⟨rfl, HA.out⟩
theorem retP_v {w w1 w' : World} {t : Nat} {v : Value} {P : PriL} {e : Ending} (hb : Below w.heap.size w w1) (h : RetP w1 t v P e w') : RetP w t v P e w' := ⟨h.1, h.2.1, grown_trans (grown_below hb) h.2.2⟩
set_option maxRecDepth 100000 in
theorem act_any {w : World} {lo b s r t : Nat} {T : TeamL} {P : PriL} (h : TeamAt w lo b s r T) (hp : PriAt w t P) (x : Int) :
    Calls Try.prog 17 #[.pointer (some ⟨t, 0, none⟩), .pointer (some ⟨b, 0, none⟩), .int .i64 x] w (RetP w t (.int .i64 (if mayP T P x then 0 else 14)) (if mayP T P x then ⟨P.team, 0, no4⟩ else P)) := by
  have HM := Lib.hid (refused_any h hp x)
  have HR := Lib.hid (fun (w' : World) (hb : Below w.heap.size w w') => resetP_any (hp.later hb) P.team)
  have HP := Lib.hid hp
  have c0 := hp.cells.1
  have hlt := hp.lt
  obtain ⟨z, hz⟩ : ∃ z, mayP T P x = z := ⟨_, rfl⟩
  obtain ⟨tm, ht⟩ : ∃ tm, P.team = tm := ⟨_, rfl⟩
  rw [hz] at HM ⊢
  rw [ht] at c0 HR ⊢
  clear hz ht h hp
  go_enter Try.func17, Try.ntmps17
  cases z
  · go_wp2_with fail
    refine HM.out.mono ?_
    rintro e w2 ⟨rfl, hb⟩
    have HB := Lib.hid hb
    clear hb HM HR
    dsimp only
    go_wp2
    go_ret
    exact ⟨rfl, HP.out.later HB.out, grown_below HB.out⟩
  · go_wp2_with fail
    refine HM.out.mono ?_
    rintro e w2 ⟨rfl, hb⟩
    have HB := Lib.hid hb
    have c0 := cell_stays hb c0
    clear hb HM
    dsimp only
    go_wp2_with fail
    refine (HR.out w2 HB.out).mono ?_
    rintro e w3 ⟨rfl, hp3, hg3⟩
    have HP3 := Lib.hid hp3
    have HG3 := Lib.hid (grown_trans (grown_below HB.out) hg3)
    clear hp3 hg3 c0 HR
    dsimp only
    go_wp2
    go_ret
    exact ⟨rfl, HP3.out, HG3.out⟩
/-! The seats that have passed. -/
def passedL (p : Four) : List Int := upTo (fun n => p.get n) 4
theorem index40 (a b c d : Value) (W : World) : (Instr.index 50 (.agg #[a, b, c, d]) (.int .i64 0)).run Try.prog W = .ok a W := by kernel_rfl
theorem index41 (a b c d : Value) (W : World) : (Instr.index 50 (.agg #[a, b, c, d]) (.int .i64 1)).run Try.prog W = .ok b W := by kernel_rfl
theorem index42 (a b c d : Value) (W : World) : (Instr.index 50 (.agg #[a, b, c, d]) (.int .i64 2)).run Try.prog W = .ok c W := by kernel_rfl
theorem index43 (a b c d : Value) (W : World) : (Instr.index 50 (.agg #[a, b, c, d]) (.int .i64 3)).run Try.prog W = .ok d W := by kernel_rfl
theorem index4 (p : Nat → Bool) (k : Nat) (hk : k < 4) (W : World) : (Instr.index 50 (.agg #[.bool (p 0), .bool (p 1), .bool (p 2), .bool (p 3)]) (.int .i64 (k : Int))).run Try.prog W = .ok (.bool (p k)) W := by
  have hk4 : k = 0 ∨ k = 1 ∨ k = 2 ∨ k = 3 := by omega
  rcases hk4 with rfl | rfl | rfl | rfl
  · exact index40 _ _ _ _ W
  · exact index41 _ _ _ _ W
  · exact index42 _ _ _ _ W
  · exact index43 _ _ _ _ W
set_option maxRecDepth 100000 in
set_option maxHeartbeats 4000000 in
theorem passed_any {w : World} {t : Nat} {P : PriL} (h : PriAt w t P) : Calls Try.prog 13 #[.pointer (some ⟨t, 0, none⟩)] w (RetList w (passedL P.p)) := by
  unfold passedL
  obtain ⟨-, -, c2, c3, c4, c5⟩ := h.cells
  obtain ⟨p, hp⟩ : ∃ p : Nat → Bool, (fun n : Nat => P.p.get n) = p := ⟨_, rfl⟩
  have e0 : p 0 = P.p.a := by rw [← hp]; rfl
  have e1 : p 1 = P.p.b := by rw [← hp]; rfl
  have e2 : p 2 = P.p.c := by rw [← hp]; rfl
  have e3 : p 3 = P.p.d := by rw [← hp]; rfl
  rw [hp]
  rw [← e0] at c2
  rw [← e1] at c3
  rw [← e2] at c4
  rw [← e3] at c5
  clear h hp e0 e1 e2 e3
  go_enter Try.func13, Try.ntmps13
  go_wp2
  go_loopw [3, 12] (fun v i wr => ∃ k : Nat, k ≤ 4 ∧ i = .int .i64 k ∧ Hid (wr.ownsRow w.heap.size 3 1 v (upTo p k).length (intsV (upTo p k))) ∧ Hid (Below w.heap.size w wr)) (fun _ i _ => 4 - (intOf i).toNat)
  case atStart => exact ⟨0, Nat.zero_le _, rfl, Lib.hid (World.ownsRow_nil _ _ _ _), Lib.hid (Below.refl _ _)⟩
  case round =>
    obtain ⟨k, hk, rfl, HW, HB⟩ := hrel
    clear c2 c3 c4 c5
    by_cases hlt : k < 4
    · have hlen := upTo_len p k
      obtain ⟨L, hL⟩ : ∃ L, upTo p k = L := ⟨_, rfl⟩
      rw [hL] at HW hlen
      have hix := fun W => index4 p k hlt W
      cases hb : p k with
      | false =>
        have HN := Lib.hid ((upTo_no hb).trans hL)
        rw [hb] at hix
        clear hL hb
        go_wp2
        go_roundw
        case rel => exact ⟨k + 1, by omega, by go_num, by rw [HN.out]; exact HW, HB⟩
        case measure => simp [intOf]; omega
      | true =>
        have HN := Lib.hid ((upTo_yes hb).trans (by rw [hL]))
        rw [hb] at hix
        clear hL hb
        go_wp2_with (at_builtin; refine wpList_push rfl _ _ rfl rfl _ L (k : Int) rfl HW.out HB.out rfl (by omega) ?f)
        case f =>
          intro v' w' h3 h4
          have H3 := Lib.hid (show w'.ownsRow w.heap.size 3 1 v' (upTo p (k + 1)).length (intsV (upTo p (k + 1))) from by rw [HN.out, List.length_append]; exact h3)
          have H4 := Lib.hid h4
          clear h3 h4
          go_wp2
          go_roundw
          case rel => exact ⟨k + 1, by omega, by go_num, H3, H4⟩
          case measure => simp [intOf]; omega
    · obtain rfl : k = 4 := by omega
      go_wp2
      go_ret
      exact ⟨_, rfl, HW.out, HB.out⟩
end Go.Proofs.Ytciieodmihgpgaa
