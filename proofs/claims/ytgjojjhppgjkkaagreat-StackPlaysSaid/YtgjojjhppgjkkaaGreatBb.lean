/- What reads a board and what makes a copy (layer 11): has, Dry, Wet, Copy, New. -/
import Derived.Test.YtgjojjhppgjkkaaGreatBa
namespace Go.Proofs.YtgjojjhppgjkkaaGreat
open Go.RowKit Go.Maps
attribute [local go_sem] Oper.semAt_some

set_option maxRecDepth 100000 in
set_option maxHeartbeats 2000000 in
theorem sseats_any {w : World} {lo b : Nat} {G : Ghost} {S : StoreL} (h : StoreAt w lo b G S) : Calls Tryz.prog 67 #[.pointer (some ⟨b, 0, none⟩)] w (Same w (.int .i64 S.seats)) := by
  have c1 : w.cell? ⟨b, 1, none⟩ = some (.int .i64 S.seats) := by rw [cell_of_row w b 1 _ _ _ h.hd]; rfl
  clear h
  go_enter Tryz.func67, Tryz.ntmps67
  go_wp2
  go_ret
  exact ⟨rfl, rfl⟩
set_option maxRecDepth 100000 in
set_option maxHeartbeats 2000000 in
theorem has11_any {w : World} {lo : Nat} {g : GhostB} {B : BoardL} (h : BoardAt w lo g B) (k : Int) : Calls Tryz.prog 44 #[.pointer (some ⟨g.q, 0, none⟩), .int .i64 k] w (Same w (.bool (hasT B k))) := by
  obtain ⟨c0, c1, -⟩ := h.cells
  have HO := Lib.hid (tof_any h.tm k)
  have HS := Lib.hid (sseats_any h.st)
  have hk := ofT_has h k
  unfold hasT
  obtain ⟨o, ho⟩ : ∃ o, ofT B.T k = o := ⟨_, rfl⟩
  obtain ⟨n, hn⟩ : ∃ n, B.S.seats = n := ⟨_, rfl⟩
  rw [ho, hn] at hk
  rw [ho] at HO
  rw [hn] at HS ⊢
  clear h ho hn
  by_cases h0 : 0 ≤ o
  · have d0 : decide (0 ≤ o) = true := decide_eq_true h0
    have d1 : decide (k < (n : Int)) = true := decide_eq_true (hk.1 h0).2
    rw [decide_eq_true (hk.1 h0)]
    clear hk h0
    go_enter Tryz.func44, Tryz.ntmps44
    go_wp2_with fail
    refine HO.out.mono ?_
    rintro e w1 ⟨rfl, rfl⟩
    go_wp2_with fail
    refine HS.out.mono ?_
    rintro e w1 ⟨rfl, rfl⟩
    go_wp2
    go_ret
    exact ⟨rfl, rfl⟩
  · have d0 : decide (0 ≤ o) = false := decide_eq_false h0
    rw [decide_eq_false (fun e => h0 (hk.2 e))]
    clear hk h0 HS
    go_enter Tryz.func44, Tryz.ntmps44
    go_wp2_with fail
    refine HO.out.mono ?_
    rintro e w1 ⟨rfl, rfl⟩
    go_wp2
    go_ret
    exact ⟨rfl, rfl⟩
set_option maxRecDepth 100000 in
set_option maxHeartbeats 2000000 in
theorem has11_nil (k : Int) (w : World) : Calls Tryz.prog 44 #[.pointer none, .int .i64 k] w (Same w (.bool false)) := by
  go_enter Tryz.func44, Tryz.ntmps44
  go_wp2
  go_ret
  exact ⟨rfl, rfl⟩
def dryT (B : BoardL) (k : Int) : Bool := hasT B k && B.D.get k
theorem hasT_cases {B : BoardL} (hn : B.S.seats ≤ 4) {k : Int} (h : hasT B k = true) : k = 0 ∨ k = 1 ∨ k = 2 ∨ k = 3 := by
  have := of_decide_eq_true h
  omega
set_option maxRecDepth 100000 in
set_option maxHeartbeats 2000000 in
theorem dry_any {w : World} {lo : Nat} {g : GhostB} {B : BoardL} (h : BoardAt w lo g B) (k : Int) : Calls Tryz.prog 34 #[.pointer (some ⟨g.q, 0, none⟩), .int .i64 k] w (Same w (.bool (dryT B k))) := by
  obtain ⟨-, -, c2, c3, c4, c5⟩ := h.cells
  have HO := Lib.hid (has11_any h k)
  have hn := h.st.n4
  unfold dryT
  cases hh : hasT B k with
  | false =>
    rw [hh] at HO
    clear h hn hh
    rw [Bool.false_and]
    go_enter Tryz.func34, Tryz.ntmps34
    go_wp2_with fail
    refine HO.out.mono ?_
    rintro e w1 ⟨rfl, rfl⟩
    go_wp2
    go_ret
    exact ⟨rfl, rfl⟩
  | true =>
    rw [hh] at HO
    rw [Bool.true_and]
    rcases hasT_cases hn hh with rfl | rfl | rfl | rfl
    all_goals
      clear h hn hh
      go_enter Tryz.func34, Tryz.ntmps34
      go_wp2_with fail
      refine HO.out.mono ?_
      rintro e w1 ⟨rfl, rfl⟩
      go_wp2
      go_ret
      exact ⟨rfl, rfl⟩
set_option maxRecDepth 100000 in
set_option maxHeartbeats 2000000 in
theorem dry_nil (k : Int) (w : World) : Calls Tryz.prog 34 #[.pointer none, .int .i64 k] w (Same w (.bool false)) := by
  have HO := Lib.hid (has11_nil k w)
  go_enter Tryz.func34, Tryz.ntmps34
  go_wp2_with fail
  refine HO.out.mono ?_
  rintro e w1 ⟨rfl, rfl⟩
  go_wp2
  go_ret
  exact ⟨rfl, rfl⟩
set_option maxRecDepth 100000 in
set_option maxHeartbeats 2000000 in
theorem bcopy_nil (w : World) : Calls Tryz.prog 11 #[.pointer none] w (Same w (.pointer none)) := by
  go_enter Tryz.func11, Tryz.ntmps11
  go_wp2
  go_ret
  exact ⟨rfl, rfl⟩
set_option maxRecDepth 100000 in
set_option maxHeartbeats 2000000 in
theorem bsame_nil (w : World) : Calls Tryz.prog 18 #[.pointer none, .pointer none] w (Same w (.bool true)) := by
  go_enter Tryz.func18, Tryz.ntmps18
  go_wp2
  go_ret
  exact ⟨rfl, rfl⟩
set_option maxRecDepth 100000 in
set_option maxHeartbeats 2000000 in
theorem bsame_none (q : Nat) (w : World) : Calls Tryz.prog 18 #[.pointer none, .pointer (some ⟨q, 0, none⟩)] w (Same w (.bool false)) := by
  have hq : ∀ W, (binOp .eql 28 (.pointer none) (.pointer (some ⟨q, 0, none⟩))).run Tryz.prog W = .ok (.bool false) W := fun W => by kernel_rfl
  go_enter Tryz.func18, Tryz.ntmps18
  go_wp2
  go_ret
  exact ⟨rfl, rfl⟩
end Go.Proofs.YtgjojjhppgjkkaaGreat
