/- The contracts of none and Put of a codec of lists of cards (layers 1 and 2), told of whatever function is in it. -/
import Derived.Test.YtekbdbcomfleeaaCd
namespace Go.Proofs.Ytekbdbcomfleeaa
open Go.RowKit

theorem eqp_d (fn : Fn) (fi ca : Array Value) (u : World) : (binOp .eql 48 (.func fn fi ca) .nilFunc).run Try.prog u = .ok (.bool false) u := by kernel_rfl
theorem eqn_d (fn : Fn) (fi ca : Array Value) (u : World) : (binOp .eql 49 (.func fn fi ca) .nilFunc).run Try.prog u = .ok (.bool false) u := by kernel_rfl

set_option maxRecDepth 100000 in
set_option maxHeartbeats 400000 in
theorem none_d (fn : Fn) (fi ca : Array Value) (v1 : Value) (w : World) :
    Calls Try.prog 51 #[.agg #[.func fn fi ca, v1]] w fun e w' => e = .returned (.bool false) ∧ w.alloc (.cells #[.func fn fi ca, v1] 51) = w' := by
  have h1 := @eg_func
  have h2 := @eqp_d
  go_enter Try.func51, Try.ntmps51
  go_wp2
  go_ret
  exact ⟨rfl, rfl⟩

theorem pd_d (p q : Option Addr) (w : World) :
    CallsD Try.prog 52 #[.pointer p, .pointer q] .returning w fun e u' w' => e = .returned (.tuple #[]) ∧ u' = .returning ∧ w' = w := by
  refine callsD_of_wpS Try.func52 rfl fun c₀ cs hu => ?_
  apply wpS_seq
  apply wpS_region
  simp [wpOpsS, go_sem, recoverD, hu, Try.ntmps52, Exit.thenS]
  refine wpS_cond (t := false) (by simp [Act.eval, Array.replicate]) ?_
  simp only [Bool.false_eq_true, if_false]
  refine wpS_of_wp (wp_skip ?_)
  cases c₀
  simp_all [bodyPostS, results, Try.results52]

set_option maxRecDepth 100000 in
set_option maxHeartbeats 800000 in
theorem putc_d (k : Nat) (hk : Enters k) (first cap : Array Value) (v1 : Value) (xv : Value) (s : ByteArray) (n : Int) (w : World)
    (hc : ∀ w1, Below w.heap.size w w1 → Calls Try.prog k (first.push xv ++ cap) w1 fun e w2 => e = ret2 (s, n) ∧ Below w1.heap.size w1 w2) :
    Calls Try.prog 23 #[.agg #[.func (.func k) first cap, v1], xv] w fun e w' => e = ret2 (outS s n) ∧ Below w.heap.size w w' := by
  have hmf := @mk_func
  have hkk := hk.out
  unfold ret2 at hc
  have HC := Lib.hid hc
  clear hc
  go_enter_defers Try.func23, Try.ntmps23
  go_wp2_with (go_at_call 51; refine (none_d _ _ _ _ _).mono ?_; rintro e w' ⟨rfl, rfl⟩)
  refine (HC.out _ (((((Below.refl _ _).alloc (Nat.le_refl _) _).alloc (by simp) _).alloc (by simp; omega) _).alloc (by simp; omega) _)).mono ?_
  rintro e w2 ⟨rfl, hb⟩
  have hcells := bcell hb
  have hz := hb.size
  simp at hz
  have hbase : Below w.heap.size w w2 := (((((Below.refl _ _).alloc (Nat.le_refl _) _).alloc (by simp) _).alloc (by simp; omega) _).alloc (by simp; omega) _).trans (hb.mono (by simp; omega))
  have HB := Lib.hid hbase
  have C1 : Hid (w2.cell? ⟨w.heap.size + 1, 0, none⟩ = some (.string { data := #[] })) := by
    refine Lib.hid ?_
    rw [hcells.1 _ _ (by simp)]; simp [go_sem]
  have C2 : Hid (w2.cell? ⟨w.heap.size + 1 + 1, 0, none⟩ = some (.int .i64 0)) := by
    refine Lib.hid ?_
    rw [hcells.1 _ _ (by simp)]; simp [go_sem]
  clear hbase hb
  by_cases h0 : n = 0
  · subst h0
    go_wp2
    refine leaves_cons (f := 52) (args := #[.pointer (some ⟨w.heap.size + 1, 0, none⟩), .pointer (some ⟨w.heap.size + 1 + 1, 0, none⟩)]) (by simp) (by simp [go_sem]) ?_
    refine (pd_d _ _ _).mono ?_
    rintro e u' w'' ⟨rfl, rfl, rfl⟩
    simp [Leaves, settle, results, Try.results23, go_sem, C1.out, C2.out, World.cell?_setCell_other, isSome_setCell]
    refine ⟨by simp [ret2, outS], ?_⟩
    repeat (first | exact HB.out | refine Below.drew ?_ | refine Below.setCell ?_ (by dsimp only; omega) _)
  · have h0' : (n != 0) = true := by simpa using h0
    go_wp2
    go_region
    all_goals go_wp2
    all_goals refine leaves_cons (f := 52) (args := #[.pointer (some ⟨w.heap.size + 1, 0, none⟩), .pointer (some ⟨w.heap.size + 1 + 1, 0, none⟩)]) (by simp) (by simp [go_sem]) ?_
    all_goals refine (pd_d _ _ _).mono ?_
    all_goals rintro e u' w'' ⟨rfl, rfl, rfl⟩
    all_goals simp [Leaves, settle, results, Try.results23, go_sem, C1.out, C2.out, World.cell?_setCell_other, isSome_setCell]
    all_goals refine ⟨by simp [ret2, outS, h0], ?_⟩
    all_goals repeat (first | exact HB.out | refine Below.drew ?_ | refine Below.setCell ?_ (by dsimp only; omega) _)
end Go.Proofs.Ytekbdbcomfleeaa
