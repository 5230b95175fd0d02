/- What is answered of no priority, or without teams; the law PriorNone (layer 16), walked. -/
import Derived.Test.YtciieodmihgpgaaPf
import Derived.IntWalk
namespace Go.Proofs.Ytciieodmihgpgaa
open Go.RowKit
attribute [local go_sem] Oper.semAt_some

theorem and_in (x : Int) (m : Nat) (hm : m < 1000) : 0 ≤ bits .and .i64 x m ∧ bits .and .i64 x m ≤ m := by
  have h : ((BitVec.ofInt 64 x) &&& (BitVec.ofInt 64 m)).toNat ≤ m := by
    rw [BitVec.toNat_and]
    refine Nat.le_trans Nat.and_le_right ?_
    rw [BitVec.toNat_ofInt]
    omega
  have e : bits .and .i64 x m = IntKind.i64.wrap (((BitVec.ofInt 64 x) &&& (BitVec.ofInt 64 m)).toNat) := rfl
  rw [e]
  obtain ⟨n, hn⟩ : ∃ n, ((BitVec.ofInt 64 x) &&& (BitVec.ofInt 64 m)).toNat = n := ⟨_, rfl⟩
  rw [hn] at h ⊢
  have hw : IntKind.i64.wrap (n : Int) = n := by rw [IntKind.wrap_i64]; omega
  rw [hw]
  omega
set_option maxRecDepth 100000 in
theorem teamP_nil (w : World) : Calls Try.prog 11 #[.pointer none] w (Same w (.int .i64 (-1))) := by
  go_enter Try.func11, Try.ntmps11
  go_wp2
  go_ret
  exact ⟨rfl, rfl⟩
set_option maxRecDepth 100000 in
theorem mayP_nil (q : Option Addr) (x : Int) (w : World) : Calls Try.prog 18 #[.pointer none, .pointer q, .int .i64 x] w (Same w (.bool false)) := by
  go_enter Try.func18, Try.ntmps18
  go_wp2
  go_ret
  exact ⟨rfl, rfl⟩
set_option maxRecDepth 100000 in
theorem mayT_nil (a : Addr) (x : Int) (w : World) : Calls Try.prog 18 #[.pointer (some a), .pointer none, .int .i64 x] w (Same w (.bool false)) := by
  go_enter Try.func18, Try.ntmps18
  go_wp2
  go_ret
  exact ⟨rfl, rfl⟩
set_option maxRecDepth 100000 in
theorem refP_nil (q : Option Addr) (x : Int) (w : World) : Calls Try.prog 21 #[.pointer none, .pointer q, .int .i64 x] w (Same w (.int .i64 1)) := by
  go_enter Try.func21, Try.ntmps21
  go_wp2
  go_ret
  exact ⟨rfl, rfl⟩
set_option maxRecDepth 100000 in
theorem refT_nil (a : Addr) (x : Int) (w : World) : Calls Try.prog 21 #[.pointer (some a), .pointer none, .int .i64 x] w (Same w (.int .i64 1)) := by
  go_enter Try.func21, Try.ntmps21
  go_wp2
  go_ret
  exact ⟨rfl, rfl⟩
set_option maxRecDepth 100000 in
theorem resetP_nil (x : Int) (w : World) : Calls Try.prog 16 #[.pointer none, .int .i64 x] w (Same w (.tuple #[])) := by
  go_enter Try.func16, Try.ntmps16
  go_wp2
  go_end0
  exact ⟨rfl, rfl⟩
set_option maxRecDepth 100000 in
theorem passedP_nil (w : World) : Calls Try.prog 13 #[.pointer none] w (Same w (.slice none 0 0)) := by
  go_enter Try.func13, Try.ntmps13
  go_wp2
  go_ret
  exact ⟨rfl, rfl⟩
set_option maxRecDepth 100000 in
theorem copyP_nil (w : World) : Calls Try.prog 14 #[.pointer none] w (Same w (.pointer none)) := by
  go_enter Try.func14, Try.ntmps14
  go_wp2
  go_ret
  exact ⟨rfl, rfl⟩
set_option maxRecDepth 100000 in
theorem sameP_nil (w : World) : Calls Try.prog 15 #[.pointer none, .pointer none] w (Same w (.bool true)) := by
  go_enter Try.func15, Try.ntmps15
  go_wp2
  go_ret
  exact ⟨rfl, rfl⟩
set_option maxRecDepth 100000 in
theorem sameP_none (t : Nat) (w : World) : Calls Try.prog 15 #[.pointer none, .pointer (some ⟨t, 0, none⟩)] w (Same w (.bool false)) := by
  have hq : ∀ W, (binOp .eql 27 (.pointer none) (.pointer (some ⟨t, 0, none⟩))).run Try.prog W = .ok (.bool false) W := fun W => by kernel_rfl
  go_enter Try.func15, Try.ntmps15
  go_wp2
  go_ret
  exact ⟨rfl, rfl⟩
set_option maxRecDepth 100000 in
theorem passP_nil (q : Option Addr) (x : Int) (w : World) : Calls Try.prog 12 #[.pointer none, .pointer q, .int .i64 x] w (Same w (.tuple #[.int .i64 0, .int .i64 1])) := by
  go_enter Try.func12, Try.ntmps12
  go_wp2_with fail
  refine (refP_nil q x w).mono ?_
  rintro e w2 ⟨rfl, rfl⟩
  dsimp only
  go_wp2
  go_ret2
  exact ⟨rfl, rfl⟩
set_option maxRecDepth 100000 in
theorem passT_nil (a : Addr) (x : Int) (w : World) : Calls Try.prog 12 #[.pointer (some a), .pointer none, .int .i64 x] w (Same w (.tuple #[.int .i64 0, .int .i64 1])) := by
  go_enter Try.func12, Try.ntmps12
  go_wp2_with fail
  refine (refT_nil a x w).mono ?_
  rintro e w2 ⟨rfl, rfl⟩
  dsimp only
  go_wp2
  go_ret2
  exact ⟨rfl, rfl⟩
set_option maxRecDepth 100000 in
theorem actP_nil (q : Option Addr) (x : Int) (w : World) : Calls Try.prog 17 #[.pointer none, .pointer q, .int .i64 x] w (Same w (.int .i64 1)) := by
  go_enter Try.func17, Try.ntmps17
  go_wp2_with fail
  refine (refP_nil q x w).mono ?_
  rintro e w2 ⟨rfl, rfl⟩
  dsimp only
  go_wp2
  go_ret
  exact ⟨rfl, rfl⟩
set_option maxRecDepth 100000 in
theorem actT_nil (a : Addr) (x : Int) (w : World) : Calls Try.prog 17 #[.pointer (some a), .pointer none, .int .i64 x] w (Same w (.int .i64 1)) := by
  go_enter Try.func17, Try.ntmps17
  go_wp2_with fail
  refine (refT_nil a x w).mono ?_
  rintro e w2 ⟨rfl, rfl⟩
  dsimp only
  go_wp2
  go_ret
  exact ⟨rfl, rfl⟩
/-- A copy that has passed is another one. -/
theorem pass_first (k : Int) (hk : k = 0 ∨ k = 1) : mayP teams0 ⟨0, 0, no4⟩ k = true ∧ (passP teams0 ⟨0, 0, no4⟩ k).2 = 0 ∧ eqP (passP teams0 ⟨0, 0, no4⟩ k).1 ⟨0, 0, no4⟩ = false := by
  rcases hk with rfl | rfl
  all_goals exact ⟨rfl, rfl, rfl⟩
set_option maxRecDepth 100000 in
set_option maxHeartbeats 32000000 in
theorem priorNone_walk (a0 a1 b0 b1 x : Int) {w : World} :
    Calls Try.prog 4 #[.agg #[.int .i64 a0, .int .i64 a1], .agg #[.int .i64 b0, .int .i64 b1], .int .i64 x] w (RetV w (.bool true)) := by
  obtain ⟨k, hk⟩ : ∃ k, bits .and .i64 a1 1 = k := ⟨_, rfl⟩
  have hk1 : k = 0 ∨ k = 1 := by
    have := and_in a1 1 (by decide)
    rw [show ((1 : Nat) : Int) = 1 from rfl, hk] at this
    omega
  have HK1 := Lib.hid (pass_first k hk1)
  clear hk1
  have hx1 := below_new w (.cells #[.int .i64 a0, .int .i64 a1] 37)
  have hx2 := below_alloc2 hx1 (.cells #[.int .i64 b0, .int .i64 b1] 37)
  have hy2 := below_new (w.alloc (.cells #[.int .i64 a0, .int .i64 a1] 37)) (.cells #[.int .i64 b0, .int .i64 b1] 37)
  have p1 := heap_alloc_new w (.cells #[.int .i64 a0, .int .i64 a1] 37)
  have p2 := heap_alloc_new (w.alloc (.cells #[.int .i64 a0, .int .i64 a1] 37)) (.cells #[.int .i64 b0, .int .i64 b1] 37)
  replace p1 := (hy2.block _ (by simp)).trans p1
  simp only [World.size_alloc] at p1 p2
  obtain ⟨q, hq⟩ : ∃ q, w.heap.size = q := ⟨_, rfl⟩
  have HQ := Lib.hid hq
  rw [hq] at p1 p2
  clear hy2 hx1
  go_enter Try.func4, Try.ntmps4
  go_wp2_with fail
  obtain ⟨w0, hw0⟩ : ∃ w0, (w.alloc (.cells #[.int .i64 a0, .int .i64 a1] 37)).alloc (.cells #[.int .i64 b0, .int .i64 b1] 37) = w0 := ⟨_, rfl⟩
  rw [hw0] at p1 p2 hx2 ⊢
  have HX := Lib.hid hx2
  have A1 := Lib.hid (cell_of_row w0 q 1 _ _ _ p1)
  have B1 := Lib.hid (cell_of_row w0 (q + 1) 1 _ _ _ p2)
  have HL := Lib.hid (show q < w0.heap.size ∧ q + 1 < w0.heap.size from ⟨(Array.getElem?_eq_some_iff.1 p1).1, (Array.getElem?_eq_some_iff.1 p2).1⟩)
  clear hw0 p1 p2 hx2 hq
  refine (awake16_any _).mono ?_
  rintro e w1 ⟨rfl, hb1⟩
  have HB1 := Lib.hid hb1
  clear hb1
  dsimp only
  go_wp2_with fail
  refine (sides_any (n := 0) (by omega) w1).mono ?_
  rintro e w2 ⟨lo, b, s, r, rfl, ht, hlo, hb2⟩
  rw [sidesT_zero] at ht
  have HT := Lib.hid ht
  have HB2 := Lib.hid (stepB HB1.out hb2)
  clear ht hb2 hlo HB1
  dsimp only
  go_wp2_with fail
  refine (newP_any 0 w2).mono ?_
  rintro e w3 ⟨rfl, hp3, hb3⟩
  have HP3 := Lib.hid (PT.mk (HT.out.later hb3) hp3 ⟨by have := HT.out.lt; omega, by have := HT.out.sd.1; omega, by have := HT.out.ltr; omega⟩)
  have HB3 := Lib.hid (stepB HB2.out hb3)
  obtain ⟨t, ht⟩ : ∃ t, w2.heap.size = t := ⟨_, rfl⟩
  rw [ht] at HP3 ⊢
  clear hp3 hb3 ht HT HB2
  dsimp only
  go_wp2_with fail
  refine (copyP_any HP3.out.pr).mono ?_
  rintro e w4 ⟨rfl, hp4, hb4⟩
  have HC4 := Lib.hid (PT.mk (HP3.out.tm.later hb4) hp4 ⟨by have := HP3.out.tm.lt; omega, by have := HP3.out.tm.sd.1; omega, by have := HP3.out.tm.ltr; omega⟩)
  have HP4 := Lib.hid (HP3.out.pr.later hb4)
  have HB4 := Lib.hid (stepB HB3.out hb4)
  have HTU := Lib.hid (show t ≠ w3.heap.size from by have := HP3.out.pr.lt; omega)
  have HUL := Lib.hid HB3.out.size
  obtain ⟨u, hu⟩ : ∃ u, w3.heap.size = u := ⟨_, rfl⟩
  rw [hu] at HC4 HTU HUL ⊢
  clear hp4 hb4 hu HP3 HB3
  have cA := HB4.out.cell (p := ⟨q, 1, none⟩) HL.out.1
  rw [A1.out] at cA
  have cA : w4.cell? ⟨q, 1, none⟩ = some (.int .i64 a1) := cA
  have HPA := Lib.hid (pass_yes HC4.out HK1.out.1 (by simp) (by simp))
  rw [HK1.out.2.1] at HPA
  have HNE := Lib.hid HK1.out.2.2
  obtain ⟨Q, hQ⟩ : ∃ Q, (passP teams0 ⟨0, 0, no4⟩ k).1 = Q := ⟨_, rfl⟩
  rw [hQ] at HPA HNE
  clear hQ HK1
  dsimp only
  go_wp2_with fail
  refine HPA.out.mono ?_
  rintro e w5 ⟨rfl, hp5, hg5⟩
  have HC5 := Lib.hid (HC4.out.ret hp5 hg5)
  have HP5 := Lib.hid (HP4.out.grown hg5 HTU.out)
  have HB5 := Lib.hid (grown_to HB4.out hg5 HUL.out)
  clear hp5 hg5 cA HC4 HP4 HB4 HPA
  have HS1 := Lib.hid (sameP_any HC5.out.pr HP5.out)
  rw [HNE.out] at HS1
  dsimp only
  go_wp2_with fail
  refine HS1.out.mono ?_
  rintro e w6 ⟨rfl, hb6⟩
  have HC6 := Lib.hid (HC5.out.later hb6)
  have HP6 := Lib.hid (HP5.out.later hb6)
  have HB6 := Lib.hid (stepB HB5.out hb6)
  clear hb6 HC5 HP5 HB5 HS1
  dsimp only
  go_wp2_with fail
  refine (passed_any HP6.out).mono ?_
  rintro e w7 ⟨vs, rfl, hr7, hb7⟩
  have hi7 := own_ints hr7
  obtain ⟨va7, vc7, rfl⟩ := hi7.form
  rw [show (passedL no4).length = 0 from rfl] at hi7 ⊢
  have HC7 := Lib.hid (HC6.out.later hb7)
  have HP7 := Lib.hid (HP6.out.later hb7)
  have HB7 := Lib.hid (stepB HB6.out hb7)
  clear hi7 hr7 hb7 HC6 HP6 HB6
  dsimp only
  go_wp2_with fail
  refine (newP_any 0 w7).mono ?_
  rintro e w8 ⟨rfl, hp8, hb8⟩
  have HC8 := Lib.hid (HC7.out.later hb8)
  have HP8 := Lib.hid (HP7.out.later hb8)
  have HB8 := Lib.hid (stepB HB7.out hb8)
  have HS8 := Lib.hid (sameP_any HP8.out hp8)
  rw [show eqP ⟨0, 0, no4⟩ ⟨0, 0, no4⟩ = true from rfl] at HS8
  clear hp8 hb8 HC7 HP7 HB7
  dsimp only
  go_wp2_with fail
  refine HS8.out.mono ?_
  rintro e w9 ⟨rfl, hb9⟩
  have HC9 := Lib.hid (HC8.out.later hb9)
  have HP9 := Lib.hid (HP8.out.later hb9)
  have HB9 := Lib.hid (stepB HB8.out hb9)
  clear hb9 HC8 HP8 HB8 HS8
  dsimp only
  go_wp2_with fail
  refine (newP_any 1 w9).mono ?_
  rintro e w10 ⟨rfl, hp8, hb8⟩
  have HC10 := Lib.hid (HC9.out.later hb8)
  have HP10 := Lib.hid (HP9.out.later hb8)
  have HB10 := Lib.hid (stepB HB9.out hb8)
  have HS10 := Lib.hid (sameP_any HP10.out hp8)
  rw [show eqP ⟨0, 0, no4⟩ ⟨1, 0, no4⟩ = false from rfl] at HS10
  clear hp8 hb8 HC9 HP9 HB9
  dsimp only
  go_wp2_with fail
  refine HS10.out.mono ?_
  rintro e w11 ⟨rfl, hb9⟩
  have HC11 := Lib.hid (HC10.out.later hb9)
  have HP11 := Lib.hid (HP10.out.later hb9)
  have HB11 := Lib.hid (stepB HB10.out hb9)
  clear hb9 HC10 HP10 HB10 HS10
  dsimp only
  go_wp2_with fail
  refine (resetP_nil x w11).mono ?_
  rintro e w12 ⟨rfl, rfl⟩
  have cB := HB11.out.cell (p := ⟨q + 1, 1, none⟩) HL.out.2
  rw [B1.out] at cB
  have cB : w12.cell? ⟨q + 1, 1, none⟩ = some (.int .i64 b1) := cB
  dsimp only
  go_wp2_with fail
  refine (passP_nil _ b1 w12).mono ?_
  rintro e w13 ⟨rfl, rfl⟩
  clear cB
  dsimp only
  go_wp2_with fail
  refine (passT_nil _ 0 w13).mono ?_
  rintro e w14 ⟨rfl, rfl⟩
  dsimp only
  go_wp2_with fail
  refine (actP_nil _ 0 w14).mono ?_
  rintro e w15 ⟨rfl, rfl⟩
  dsimp only
  go_wp2_with fail
  refine (actT_nil _ 0 w15).mono ?_
  rintro e w16 ⟨rfl, rfl⟩
  dsimp only
  go_wp2_with fail
  refine (mayP_nil _ 0 w16).mono ?_
  rintro e w17 ⟨rfl, rfl⟩
  dsimp only
  go_wp2_with fail
  refine (mayT_nil _ 0 w17).mono ?_
  rintro e w18 ⟨rfl, rfl⟩
  dsimp only
  go_wp2_with fail
  refine (teamP_nil w18).mono ?_
  rintro e w19 ⟨rfl, rfl⟩
  dsimp only
  go_wp2_with fail
  refine (passedP_nil w19).mono ?_
  rintro e w20 ⟨rfl, rfl⟩
  dsimp only
  go_wp2_with fail
  refine (copyP_nil w20).mono ?_
  rintro e w21 ⟨rfl, rfl⟩
  dsimp only
  go_wp2_with fail
  refine (sameP_nil w21).mono ?_
  rintro e w22 ⟨rfl, rfl⟩
  dsimp only
  go_wp2_with fail
  refine (sameP_none _ w22).mono ?_
  rintro e w23 ⟨rfl, rfl⟩
  dsimp only
  go_wp2
  go_ret
  exact ⟨rfl, HX.out.trans (HB11.out.mono HX.out.size)⟩
end Go.Proofs.Ytciieodmihgpgaa
