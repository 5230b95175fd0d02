/- The contracts of none and Put of a codec of terms (layers 1 and 2), told of whatever function is in it. The contracts of none and Put of a codec of lists of terms (layers 1 and 2), told of whatever function is in it. The contracts of none and Put of a codec of cards (layers 1 and 2), told of whatever function is in it. -/
import Derived.Test.YtekbdbcomfleeaaCd
namespace Go.Proofs.Ytekbdbcomfleeaa
open Go.RowKit

theorem eqp_t (fn : Fn) (fi ca : Array Value) (u : World) : (binOp .eql 64 (.func fn fi ca) .nilFunc).run Try.prog u = .ok (.bool false) u := by kernel_rfl
theorem eqn_t (fn : Fn) (fi ca : Array Value) (u : World) : (binOp .eql 65 (.func fn fi ca) .nilFunc).run Try.prog u = .ok (.bool false) u := by kernel_rfl

set_option maxRecDepth 100000 in
set_option maxHeartbeats 400000 in
theorem none_t (fn : Fn) (fi ca : Array Value) (v1 : Value) (w : World) :
    Calls Try.prog 55 #[.agg #[.func fn fi ca, v1]] w fun e w' => e = .returned (.bool false) ∧ w.alloc (.cells #[.func fn fi ca, v1] 67) = w' := by
  have h1 := @eg_func
  have h2 := @eqp_t
  go_enter Try.func55, Try.ntmps55
  go_wp2
  go_ret
  exact ⟨rfl, rfl⟩

theorem pd_t (p q : Option Addr) (w : World) :
    CallsD Try.prog 96 #[.pointer p, .pointer q] .returning w fun e u' w' => e = .returned (.tuple #[]) ∧ u' = .returning ∧ w' = w := by
  refine callsD_of_wpS Try.func96 rfl fun c₀ cs hu => ?_
  apply wpS_seq
  apply wpS_region
  simp [wpOpsS, go_sem, recoverD, hu, Try.ntmps96, Exit.thenS]
  refine wpS_cond (t := false) (by simp [Act.eval, Array.replicate]) ?_
  simp only [Bool.false_eq_true, if_false]
  refine wpS_of_wp (wp_skip ?_)
  cases c₀
  simp_all [bodyPostS, results, Try.results96]

set_option maxRecDepth 100000 in
set_option maxHeartbeats 800000 in
theorem putc_t (k : Nat) (hk : Enters k) (first cap : Array Value) (v1 : Value) (x0 x1 x2 : Int) (s : ByteArray) (n : Int) (w : World)
    (hc : ∀ w1, Below w.heap.size w w1 → Calls Try.prog k (first.push (.agg #[.int .i64 x0, .int .i64 x1, .int .i64 x2]) ++ cap) w1 fun e w2 => e = ret2 (s, n) ∧ Below w1.heap.size w1 w2) :
    Calls Try.prog 80 #[.agg #[.func (.func k) first cap, v1], (.agg #[.int .i64 x0, .int .i64 x1, .int .i64 x2])] w fun e w' => e = ret2 (outS s n) ∧ Below w.heap.size w w' := by
  have hmf := @mk_func
  have hkk := hk.out
  unfold ret2 at hc
  have HC := Lib.hid hc
  clear hc
  go_enter_defers Try.func80, Try.ntmps80
  go_wp2_with (go_at_call 55; refine (none_t _ _ _ _ _).mono ?_; rintro e w' ⟨rfl, rfl⟩)
  refine (HC.out _ ((((((Below.refl _ _).alloc (Nat.le_refl _) _).alloc (by simp) _).alloc (by simp; omega) _).alloc (by simp; omega) _).alloc (by simp; omega) _)).mono ?_
  rintro e w2 ⟨rfl, hb⟩
  have hcells := bcell hb
  have hz := hb.size
  simp at hz
  have hbase : Below w.heap.size w w2 := ((((((Below.refl _ _).alloc (Nat.le_refl _) _).alloc (by simp) _).alloc (by simp; omega) _).alloc (by simp; omega) _).alloc (by simp; omega) _).trans (hb.mono (by simp; omega))
  have HB := Lib.hid hbase
  have C1 : Hid (w2.cell? ⟨w.heap.size + 1 + 1, 0, none⟩ = some (.string { data := #[] })) := by
    refine Lib.hid ?_
    rw [hcells.1 _ _ (by simp)]; simp [go_sem]
  have C2 : Hid (w2.cell? ⟨w.heap.size + 1 + 1 + 1, 0, none⟩ = some (.int .i64 0)) := by
    refine Lib.hid ?_
    rw [hcells.1 _ _ (by simp)]; simp [go_sem]
  clear hbase hb
  by_cases h0 : n = 0
  · subst h0
    go_wp2
    refine leaves_cons (f := 96) (args := #[.pointer (some ⟨w.heap.size + 1 + 1, 0, none⟩), .pointer (some ⟨w.heap.size + 1 + 1 + 1, 0, none⟩)]) (by simp) (by simp [go_sem]) ?_
    refine (pd_t _ _ _).mono ?_
    rintro e u' w'' ⟨rfl, rfl, rfl⟩
    simp [Leaves, settle, results, Try.results80, go_sem, C1.out, C2.out, World.cell?_setCell_other, isSome_setCell]
    refine ⟨by simp [ret2, outS], ?_⟩
    repeat (first | exact HB.out | refine Below.drew ?_ | refine Below.setCell ?_ (by dsimp only; omega) _)
  · have h0' : (n != 0) = true := by simpa using h0
    go_wp2
    go_region
    all_goals go_wp2
    all_goals refine leaves_cons (f := 96) (args := #[.pointer (some ⟨w.heap.size + 1 + 1, 0, none⟩), .pointer (some ⟨w.heap.size + 1 + 1 + 1, 0, none⟩)]) (by simp) (by simp [go_sem]) ?_
    all_goals refine (pd_t _ _ _).mono ?_
    all_goals rintro e u' w'' ⟨rfl, rfl, rfl⟩
    all_goals simp [Leaves, settle, results, Try.results80, go_sem, C1.out, C2.out, World.cell?_setCell_other, isSome_setCell]
    all_goals refine ⟨by simp [ret2, outS, h0], ?_⟩
    all_goals repeat (first | exact HB.out | refine Below.drew ?_ | refine Below.setCell ?_ (by dsimp only; omega) _)
end Go.Proofs.Ytekbdbcomfleeaa
namespace Go.Proofs.Ytekbdbcomfleeaa
open Go.RowKit

theorem eqp_l (fn : Fn) (fi ca : Array Value) (u : World) : (binOp .eql 59 (.func fn fi ca) .nilFunc).run Try.prog u = .ok (.bool false) u := by kernel_rfl
theorem eqn_l (fn : Fn) (fi ca : Array Value) (u : World) : (binOp .eql 60 (.func fn fi ca) .nilFunc).run Try.prog u = .ok (.bool false) u := by kernel_rfl

set_option maxRecDepth 100000 in
set_option maxHeartbeats 400000 in
theorem none_l (fn : Fn) (fi ca : Array Value) (v1 : Value) (w : World) :
    Calls Try.prog 83 #[.agg #[.func fn fi ca, v1]] w fun e w' => e = .returned (.bool false) ∧ w.alloc (.cells #[.func fn fi ca, v1] 62) = w' := by
  have h1 := @eg_func
  have h2 := @eqp_l
  go_enter Try.func83, Try.ntmps83
  go_wp2
  go_ret
  exact ⟨rfl, rfl⟩

theorem pd_l (p q : Option Addr) (w : World) :
    CallsD Try.prog 84 #[.pointer p, .pointer q] .returning w fun e u' w' => e = .returned (.tuple #[]) ∧ u' = .returning ∧ w' = w := by
  refine callsD_of_wpS Try.func84 rfl fun c₀ cs hu => ?_
  apply wpS_seq
  apply wpS_region
  simp [wpOpsS, go_sem, recoverD, hu, Try.ntmps84, Exit.thenS]
  refine wpS_cond (t := false) (by simp [Act.eval, Array.replicate]) ?_
  simp only [Bool.false_eq_true, if_false]
  refine wpS_of_wp (wp_skip ?_)
  cases c₀
  simp_all [bodyPostS, results, Try.results84]

set_option maxRecDepth 100000 in
set_option maxHeartbeats 800000 in
theorem putc_l (k : Nat) (hk : Enters k) (first cap : Array Value) (v1 : Value) (xv : Value) (s : ByteArray) (n : Int) (w : World)
    (hc : ∀ w1, Below w.heap.size w w1 → Calls Try.prog k (first.push xv ++ cap) w1 fun e w2 => e = ret2 (s, n) ∧ Below w1.heap.size w1 w2) :
    Calls Try.prog 66 #[.agg #[.func (.func k) first cap, v1], xv] w fun e w' => e = ret2 (outS s n) ∧ Below w.heap.size w w' := by
  have hmf := @mk_func
  have hkk := hk.out
  unfold ret2 at hc
  have HC := Lib.hid hc
  clear hc
  go_enter_defers Try.func66, Try.ntmps66
  go_wp2_with (go_at_call 83; refine (none_l _ _ _ _ _).mono ?_; rintro e w' ⟨rfl, rfl⟩)
  refine (HC.out _ (((((Below.refl _ _).alloc (Nat.le_refl _) _).alloc (by simp) _).alloc (by simp; omega) _).alloc (by simp; omega) _)).mono ?_
  rintro e w2 ⟨rfl, hb⟩
  have hcells := bcell hb
  have hz := hb.size
  simp at hz
  have hbase : Below w.heap.size w w2 := (((((Below.refl _ _).alloc (Nat.le_refl _) _).alloc (by simp) _).alloc (by simp; omega) _).alloc (by simp; omega) _).trans (hb.mono (by simp; omega))
  have HB := Lib.hid hbase
  have C1 : Hid (w2.cell? ⟨w.heap.size + 1, 0, none⟩ = some (.string { data := #[] })) := by
    refine Lib.hid ?_
    rw [hcells.1 _ _ (by simp)]; simp [go_sem]
  have C2 : Hid (w2.cell? ⟨w.heap.size + 1 + 1, 0, none⟩ = some (.int .i64 0)) := by
    refine Lib.hid ?_
    rw [hcells.1 _ _ (by simp)]; simp [go_sem]
  clear hbase hb
  by_cases h0 : n = 0
  · subst h0
    go_wp2
    refine leaves_cons (f := 84) (args := #[.pointer (some ⟨w.heap.size + 1, 0, none⟩), .pointer (some ⟨w.heap.size + 1 + 1, 0, none⟩)]) (by simp) (by simp [go_sem]) ?_
    refine (pd_l _ _ _).mono ?_
    rintro e u' w'' ⟨rfl, rfl, rfl⟩
    simp [Leaves, settle, results, Try.results66, go_sem, C1.out, C2.out, World.cell?_setCell_other, isSome_setCell]
    refine ⟨by simp [ret2, outS], ?_⟩
    repeat (first | exact HB.out | refine Below.drew ?_ | refine Below.setCell ?_ (by dsimp only; omega) _)
  · have h0' : (n != 0) = true := by simpa using h0
    go_wp2
    go_region
    all_goals go_wp2
    all_goals refine leaves_cons (f := 84) (args := #[.pointer (some ⟨w.heap.size + 1, 0, none⟩), .pointer (some ⟨w.heap.size + 1 + 1, 0, none⟩)]) (by simp) (by simp [go_sem]) ?_
    all_goals refine (pd_l _ _ _).mono ?_
    all_goals rintro e u' w'' ⟨rfl, rfl, rfl⟩
    all_goals simp [Leaves, settle, results, Try.results66, go_sem, C1.out, C2.out, World.cell?_setCell_other, isSome_setCell]
    all_goals refine ⟨by simp [ret2, outS, h0], ?_⟩
    all_goals repeat (first | exact HB.out | refine Below.drew ?_ | refine Below.setCell ?_ (by dsimp only; omega) _)
end Go.Proofs.Ytekbdbcomfleeaa
namespace Go.Proofs.Ytekbdbcomfleeaa
open Go.RowKit

theorem eqp_c (fn : Fn) (fi ca : Array Value) (u : World) : (binOp .eql 28 (.func fn fi ca) .nilFunc).run Try.prog u = .ok (.bool false) u := by kernel_rfl
theorem eqn_c (fn : Fn) (fi ca : Array Value) (u : World) : (binOp .eql 29 (.func fn fi ca) .nilFunc).run Try.prog u = .ok (.bool false) u := by kernel_rfl

set_option maxRecDepth 100000 in
set_option maxHeartbeats 400000 in
theorem none_c (fn : Fn) (fi ca : Array Value) (v1 : Value) (w : World) :
    Calls Try.prog 33 #[.agg #[.func fn fi ca, v1]] w fun e w' => e = .returned (.bool false) ∧ w.alloc (.cells #[.func fn fi ca, v1] 31) = w' := by
  have h1 := @eg_func
  have h2 := @eqp_c
  go_enter Try.func33, Try.ntmps33
  go_wp2
  go_ret
  exact ⟨rfl, rfl⟩

theorem pd_c (p q : Option Addr) (w : World) :
    CallsD Try.prog 34 #[.pointer p, .pointer q] .returning w fun e u' w' => e = .returned (.tuple #[]) ∧ u' = .returning ∧ w' = w := by
  refine callsD_of_wpS Try.func34 rfl fun c₀ cs hu => ?_
  apply wpS_seq
  apply wpS_region
  simp [wpOpsS, go_sem, recoverD, hu, Try.ntmps34, Exit.thenS]
  refine wpS_cond (t := false) (by simp [Act.eval, Array.replicate]) ?_
  simp only [Bool.false_eq_true, if_false]
  refine wpS_of_wp (wp_skip ?_)
  cases c₀
  simp_all [bodyPostS, results, Try.results34]

set_option maxRecDepth 100000 in
set_option maxHeartbeats 800000 in
theorem putc_c (k : Nat) (hk : Enters k) (first cap : Array Value) (v1 : Value) (x0 x1 x2 x3 x4 x5 : Int) (xt : Value) (s : ByteArray) (n : Int) (w : World)
    (hc : ∀ w1, Below w.heap.size w w1 → Calls Try.prog k (first.push (.agg #[.int .i64 x0, .int .i64 x1, .int .i64 x2, .int .i64 x3, .int .i64 x4, .int .i64 x5, xt]) ++ cap) w1 fun e w2 => e = ret2 (s, n) ∧ Below w1.heap.size w1 w2) :
    Calls Try.prog 10 #[.agg #[.func (.func k) first cap, v1], (.agg #[.int .i64 x0, .int .i64 x1, .int .i64 x2, .int .i64 x3, .int .i64 x4, .int .i64 x5, xt])] w fun e w' => e = ret2 (outS s n) ∧ Below w.heap.size w w' := by
  have hmf := @mk_func
  have hkk := hk.out
  unfold ret2 at hc
  have HC := Lib.hid hc
  clear hc
  go_enter_defers Try.func10, Try.ntmps10
  go_wp2_with (go_at_call 33; refine (none_c _ _ _ _ _).mono ?_; rintro e w' ⟨rfl, rfl⟩)
  refine (HC.out _ ((((((Below.refl _ _).alloc (Nat.le_refl _) _).alloc (by simp) _).alloc (by simp; omega) _).alloc (by simp; omega) _).alloc (by simp; omega) _)).mono ?_
  rintro e w2 ⟨rfl, hb⟩
  have hcells := bcell hb
  have hz := hb.size
  simp at hz
  have hbase : Below w.heap.size w w2 := ((((((Below.refl _ _).alloc (Nat.le_refl _) _).alloc (by simp) _).alloc (by simp; omega) _).alloc (by simp; omega) _).alloc (by simp; omega) _).trans (hb.mono (by simp; omega))
  have HB := Lib.hid hbase
  have C1 : Hid (w2.cell? ⟨w.heap.size + 1 + 1, 0, none⟩ = some (.string { data := #[] })) := by
    refine Lib.hid ?_
    rw [hcells.1 _ _ (by simp)]; simp [go_sem]
  have C2 : Hid (w2.cell? ⟨w.heap.size + 1 + 1 + 1, 0, none⟩ = some (.int .i64 0)) := by
    refine Lib.hid ?_
    rw [hcells.1 _ _ (by simp)]; simp [go_sem]
  clear hbase hb
  by_cases h0 : n = 0
  · subst h0
    go_wp2
    refine leaves_cons (f := 34) (args := #[.pointer (some ⟨w.heap.size + 1 + 1, 0, none⟩), .pointer (some ⟨w.heap.size + 1 + 1 + 1, 0, none⟩)]) (by simp) (by simp [go_sem]) ?_
    refine (pd_c _ _ _).mono ?_
    rintro e u' w'' ⟨rfl, rfl, rfl⟩
    simp [Leaves, settle, results, Try.results10, go_sem, C1.out, C2.out, World.cell?_setCell_other, isSome_setCell]
    refine ⟨by simp [ret2, outS], ?_⟩
    repeat (first | exact HB.out | refine Below.drew ?_ | refine Below.setCell ?_ (by dsimp only; omega) _)
  · have h0' : (n != 0) = true := by simpa using h0
    go_wp2
    go_region
    all_goals go_wp2
    all_goals refine leaves_cons (f := 34) (args := #[.pointer (some ⟨w.heap.size + 1 + 1, 0, none⟩), .pointer (some ⟨w.heap.size + 1 + 1 + 1, 0, none⟩)]) (by simp) (by simp [go_sem]) ?_
    all_goals refine (pd_c _ _ _).mono ?_
    all_goals rintro e u' w'' ⟨rfl, rfl, rfl⟩
    all_goals simp [Leaves, settle, results, Try.results10, go_sem, C1.out, C2.out, World.cell?_setCell_other, isSome_setCell]
    all_goals refine ⟨by simp [ret2, outS, h0], ?_⟩
    all_goals repeat (first | exact HB.out | refine Below.drew ?_ | refine Below.setCell ?_ (by dsimp only; omega) _)
end Go.Proofs.Ytekbdbcomfleeaa
