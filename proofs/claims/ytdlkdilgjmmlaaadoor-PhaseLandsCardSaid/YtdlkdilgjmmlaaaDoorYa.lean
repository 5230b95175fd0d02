/- Laid, Lay and Name of a turn, and what isn't there (layer 15). -/
import Derived.Test.YtdlkdilgjmmlaaaDoorXs
namespace Go.Proofs.YtdlkdilgjmmlaaaDoor
open Go.RowKit Go.Maps
attribute [local go_sem] Oper.semAt_some

set_option maxRecDepth 100000 in
theorem main_nil (w : World) : Calls Tryd.prog 14 #[.pointer none] w (Same w (.bool false)) := by
  go_enter Tryd.func14, Tryd.ntmps14
  go_wp2
  go_ret
  exact ⟨rfl, rfl⟩
set_option maxRecDepth 100000 in
theorem may_nil (p : Option Addr) (s : Int) (w : World) : Calls Tryd.prog 15 #[.pointer none, .pointer p, .int .i64 s] w (Same w (.bool false)) := by
  go_enter Tryd.func15, Tryd.ntmps15
  go_wp2
  go_ret
  exact ⟨rfl, rfl⟩
set_option maxRecDepth 100000 in
theorem may_nob (a : Addr) (s : Int) (w : World) : Calls Tryd.prog 15 #[.pointer (some a), .pointer none, .int .i64 s] w (Same w (.bool false)) := by
  go_enter Tryd.func15, Tryd.ntmps15
  go_wp2
  go_ret
  exact ⟨rfl, rfl⟩
set_option maxRecDepth 100000 in
theorem next_nil (p : Option Addr) (w : World) : Calls Tryd.prog 7 #[.pointer none, .pointer p] w (Same w (.tuple #[])) := by
  go_enter Tryd.func7, Tryd.ntmps7
  go_wp2
  go_end0
  exact ⟨rfl, rfl⟩
set_option maxRecDepth 100000 in
theorem begin_nil (p : Option Addr) (w : World) : Calls Tryd.prog 12 #[.pointer none, .pointer p] w (Same w (.tuple #[])) := by
  go_enter Tryd.func12, Tryd.ntmps12
  go_wp2
  go_end0
  exact ⟨rfl, rfl⟩
set_option maxRecDepth 100000 in
theorem copy_nilT (w : World) : Calls Tryd.prog 10 #[.pointer none] w (Same w (.pointer none)) := by
  go_enter Tryd.func10, Tryd.ntmps10
  go_wp2
  go_ret
  exact ⟨rfl, rfl⟩
set_option maxRecDepth 100000 in
theorem same_nilT (w : World) : Calls Tryd.prog 11 #[.pointer none, .pointer none] w (Same w (.bool true)) := by
  go_enter Tryd.func11, Tryd.ntmps11
  go_wp2
  go_ret
  exact ⟨rfl, rfl⟩
set_option maxRecDepth 100000 in
theorem same_noneT (u : Nat) (w : World) : Calls Tryd.prog 11 #[.pointer none, .pointer (some ⟨u, 0, none⟩)] w (Same w (.bool false)) := by
  have he : ∀ W : World, (binOp .eql 26 (.pointer none) (.pointer (some ⟨u, 0, none⟩))).run Tryd.prog W = .ok (.bool false) W := fun W => by first | rfl | kernel_rfl | simp [binOp, go_sem]
  go_enter Tryd.func11, Tryd.ntmps11
  go_wp2
  go_ret
  exact ⟨rfl, rfl⟩
set_option maxRecDepth 100000 in
theorem hasT_nil (s : Int) (w : World) : Calls Tryd.prog 22 #[.pointer none, .int .i64 s] w (Same w (.bool false)) := by
  go_enter Tryd.func22, Tryd.ntmps22
  go_wp2
  go_ret
  exact ⟨rfl, rfl⟩
set_option maxRecDepth 100000 in
theorem hasT_any (a : Addr) (s : Int) (w : World) : Calls Tryd.prog 22 #[.pointer (some a), .int .i64 s] w (Same w (.bool (decide (0 ≤ s) && decide (s < 4)))) := by
  cases h0 : decide (0 ≤ s) with
  | false =>
    go_enter Tryd.func22, Tryd.ntmps22
    go_wp2
    go_ret
    exact ⟨rfl, rfl⟩
  | true =>
    cases h1 : decide (s < 4) with
    | false =>
      go_enter Tryd.func22, Tryd.ntmps22
      go_wp2
      go_ret
      exact ⟨rfl, rfl⟩
    | true =>
      go_enter Tryd.func22, Tryd.ntmps22
      go_wp2
      go_ret
      exact ⟨rfl, rfl⟩
set_option maxRecDepth 100000 in
theorem laid_nil (s : Int) (w : World) : Calls Tryd.prog 9 #[.pointer none, .int .i64 s] w (Same w (.bool false)) := by
  have HH := Lib.hid (hasT_nil s w)
  go_enter Tryd.func9, Tryd.ntmps9
  go_wp2_with fail
  refine HH.out.mono ?_
  rintro e w1 ⟨rfl, rfl⟩
  dsimp only
  go_wp2
  go_ret
  exact ⟨rfl, rfl⟩
theorem dget_out {D : DryL} {s : Int} (h : ¬(0 ≤ s ∧ s < 4)) : D.get s = false := by
  unfold DryL.get
  rw [if_neg (by omega), if_neg (by omega), if_neg (by omega), if_neg (by omega)]
set_option maxRecDepth 100000 in
theorem laid_any {w : World} {t : Nat} {y : TurnL} (h : TurnAt w t y) (s : Int) : Calls Tryd.prog 9 #[.pointer (some ⟨t, 0, none⟩), .int .i64 s] w (Same w (.bool (y.laid.get s))) := by
  obtain ⟨-, -, -, c3, c4, c5, c6⟩ := h.cells
  have HH := Lib.hid (hasT_any ⟨t, 0, none⟩ s w)
  clear h
  by_cases hs : 0 ≤ s ∧ s < 4
  · have h4 : s = 0 ∨ s = 1 ∨ s = 2 ∨ s = 3 := by omega
    rcases h4 with rfl | rfl | rfl | rfl
    all_goals (
      go_enter Tryd.func9, Tryd.ntmps9
      go_wp2_with fail
      refine HH.out.mono ?_
      rintro e w1 ⟨rfl, rfl⟩
      dsimp only
      go_wp2
      go_ret
      exact ⟨rfl, rfl⟩)
  · rw [dget_out hs]
    have e : (decide (0 ≤ s) && decide (s < 4)) = false := by
      cases h0 : decide (0 ≤ s) with
      | false => rfl
      | true =>
        cases h1 : decide (s < 4) with
        | false => rfl
        | true => exact absurd ⟨of_decide_eq_true h0, of_decide_eq_true h1⟩ hs
    rw [e] at HH
    clear e hs
    go_enter Tryd.func9, Tryd.ntmps9
    go_wp2_with fail
    refine HH.out.mono ?_
    rintro e w1 ⟨rfl, rfl⟩
    dsimp only
    go_wp2
    go_ret
    exact ⟨rfl, rfl⟩
set_option maxRecDepth 100000 in
theorem lay_nil (s : Int) (w : World) : Calls Tryd.prog 8 #[.pointer none, .int .i64 s] w (Same w (.int .i64 1)) := by
  go_enter Tryd.func8, Tryd.ntmps8
  go_wp2
  go_ret
  exact ⟨rfl, rfl⟩
/-- A seat lays a land. -/
theorem TurnAt.lay {w : World} {t : Nat} {y : TurnL} (h : TurnAt w t y) {s : Nat} (hs : s < 4) : TurnAt (w.setCell ⟨t, 3 + s, none⟩ (.bool true)) t { y with laid := y.laid.put s } := by
  have h0 := RowAt.set (xs := [.int .i64 y.team, .int .i64 y.no, .int .i64 y.phase, .bool y.laid.a, .bool y.laid.b, .bool y.laid.c, .bool y.laid.d]) h (3 + s) (.bool true)
  have h4 : s = 0 ∨ s = 1 ∨ s = 2 ∨ s = 3 := by omega
  rcases h4 with rfl | rfl | rfl | rfl <;> exact h0
set_option maxRecDepth 100000 in
set_option maxHeartbeats 4000000 in
theorem lay_again {w : World} {t : Nat} {y : TurnL} (h : TurnAt w t y) {s : Int} (hl : y.laid.get s = true) : Calls Tryd.prog 8 #[.pointer (some ⟨t, 0, none⟩), .int .i64 s] w (Same w (.int .i64 18)) := by
  have HL := Lib.hid (laid_any h s)
  rw [hl] at HL
  clear h
  go_enter Tryd.func8, Tryd.ntmps8
  go_wp2_with fail
  refine HL.out.mono ?_
  rintro e w1 ⟨rfl, rfl⟩
  dsimp only
  go_wp2
  go_ret
  exact ⟨rfl, rfl⟩
set_option maxRecDepth 100000 in
set_option maxHeartbeats 4000000 in
theorem lay_out {w : World} {t : Nat} {y : TurnL} (h : TurnAt w t y) {s : Int} (hs : ¬(0 ≤ s ∧ s < 4)) : Calls Tryd.prog 8 #[.pointer (some ⟨t, 0, none⟩), .int .i64 s] w (Same w (.int .i64 2)) := by
  have HL := Lib.hid (laid_any h s)
  rw [dget_out hs] at HL
  have HH := Lib.hid (hasT_any ⟨t, 0, none⟩ s w)
  have e : (decide (0 ≤ s) && decide (s < 4)) = false := by
    cases h0 : decide (0 ≤ s) with
    | false => rfl
    | true =>
      cases h1 : decide (s < 4) with
      | false => rfl
      | true => exact absurd ⟨of_decide_eq_true h0, of_decide_eq_true h1⟩ hs
  rw [e] at HH
  clear h e hs
  go_enter Tryd.func8, Tryd.ntmps8
  go_wp2_with fail
  refine HL.out.mono ?_
  rintro e w1 ⟨rfl, e1⟩
  rw [e1]
  clear e1 w1
  dsimp only
  go_wp2_with fail
  refine HH.out.mono ?_
  rintro e w1 ⟨rfl, rfl⟩
  dsimp only
  go_wp2
  go_ret
  exact ⟨rfl, rfl⟩
set_option maxRecDepth 100000 in
set_option maxHeartbeats 4000000 in
theorem lay_new {w : World} {t : Nat} {y : TurnL} (h : TurnAt w t y) {s : Nat} (hs : s < 4) (hl : y.laid.get (s : Int) = false) : Calls Tryd.prog 8 #[.pointer (some ⟨t, 0, none⟩), .int .i64 (s : Int)] w (fun e w' => e = .returned (.int .i64 0) ∧ w' = w.setCell ⟨t, 3 + s, none⟩ (.bool true)) := by
  have HL := Lib.hid (laid_any h (s : Int))
  rw [hl] at HL
  have HH := Lib.hid (hasT_any ⟨t, 0, none⟩ (s : Int) w)
  obtain ⟨-, -, -, c3, c4, c5, c6⟩ := h.cells
  have tf := h.free
  clear h hl
  have h4 : s = 0 ∨ s = 1 ∨ s = 2 ∨ s = 3 := by omega
  rcases h4 with rfl | rfl | rfl | rfl
  all_goals (
    go_enter Tryd.func8, Tryd.ntmps8
    go_wp2_with fail
    refine HL.out.mono ?_
    rintro e w1 ⟨rfl, e1⟩
    rw [e1]
    clear e1 w1
    dsimp only
    go_wp2_with fail
    refine HH.out.mono ?_
    rintro e w1 ⟨rfl, e1⟩
    rw [e1]
    clear e1 w1
    dsimp only
    go_wp2
    go_ret
    exact ⟨rfl, rfl⟩)
end Go.Proofs.YtdlkdilgjmmlaaaDoor
