/- The contracts of none and Put of a codec of numbers (layer 1, octet), told of whatever function is in it. -/
import Derived.Test.YtcbjekdbkhibbaaA
namespace Go.Proofs.Ytcbjekdbkhibbaa
open Go.RowKit

def Enters (k : FuncId) : Prop := ∀ args u, (callFunc k args).run Try.prog u = .ok (.enter k args) u
theorem Enters.out {k : FuncId} (h : Enters k) : ∀ args u, (callFunc k args).run Try.prog u = .ok (.enter k args) u := h

theorem eg_func (t : TypeId) (x y : Operand) (fn : Fn) (fi ca : Array Value) (u : World) : (eqGuard .eql t x y (.func fn fi ca) .nilFunc).run Try.prog u = .ok () u := by rfl
theorem eg_nil (t : TypeId) (x y : Operand) (u : World) : (eqGuard .eql t x y .nilFunc .nilFunc).run Try.prog u = .ok () u := by rfl
theorem eq_func25 (fn : Fn) (fi ca : Array Value) (u : World) : (binOp .eql 25 (.func fn fi ca) .nilFunc).run Try.prog u = .ok (.bool false) u := by kernel_rfl
theorem eq_nil25 (u : World) : (binOp .eql 25 .nilFunc .nilFunc).run Try.prog u = .ok (.bool true) u := by kernel_rfl
theorem mk_func (fn : Fn) (first cap : Array Value) (w : World) : (Instr.makeFunc fn first cap).run Try.prog w = .ok (.func fn first cap) w := rfl

theorem bcell {W w1 : World} (hb : Below W.heap.size W w1) : (∀ b o, b < W.heap.size → w1.cell? ⟨b, o, none⟩ = W.cell? ⟨b, o, none⟩) ∧ (∀ b o, b < W.heap.size → w1.frozen? ⟨b, o, none⟩ = W.frozen? ⟨b, o, none⟩) :=
  ⟨fun b o h => hb.cell (p := ⟨b, o, none⟩) h, fun b o h => hb.frozen (p := ⟨b, o, none⟩) h⟩

set_option maxHeartbeats 400000 in
theorem none_func (fn : Fn) (fi ca : Array Value) (v1 : Value) (w : World) :
    Calls Try.prog 76 #[.agg #[.func fn fi ca, v1]] w fun e w' => e = .returned (.bool false) ∧ w.alloc (.cells #[.func fn fi ca, v1] 28) = w' := by
  have h1 := @eg_func
  have h2 := @eq_func25
  go_enter Try.func76, Try.ntmps76
  go_wp2
  go_ret
  exact ⟨rfl, rfl⟩

set_option maxHeartbeats 400000 in
theorem none_nil (v1 : Value) (w : World) :
    Calls Try.prog 76 #[.agg #[.nilFunc, v1]] w fun e w' => e = .returned (.bool true) ∧ w.alloc (.cells #[.nilFunc, v1] 28) = w' := by
  have h1 := @eg_nil
  have h2 := @eq_nil25
  go_enter Try.func76, Try.ntmps76
  go_wp2
  go_ret
  exact ⟨rfl, rfl⟩

theorem d34_idle (p q : Option Addr) (w : World) :
    CallsD Try.prog 77 #[.pointer p, .pointer q] .returning w fun e u' w' => e = .returned (.tuple #[]) ∧ u' = .returning ∧ w' = w := by
  refine callsD_of_wpS Try.func77 rfl fun c₀ cs hu => ?_
  apply wpS_seq
  apply wpS_region
  simp [wpOpsS, go_sem, recoverD, hu, Try.ntmps77, Exit.thenS]
  refine wpS_cond (t := false) (by simp [Act.eval, Array.replicate]) ?_
  simp only [Bool.false_eq_true, if_false]
  refine wpS_of_wp (wp_skip ?_)
  cases c₀
  simp_all [bodyPostS, results, Try.results77]

theorem isSome_setCell (w : World) (a b : Addr) (v : Value) : ((w.setCell a v).cell? b).isSome = (w.cell? b).isSome := by
  by_cases h : a = b
  · subst h
    simp only [World.setCell, World.cell?, Array.getElem?_modify, if_true]
    cases hb : w.heap[a.block]? with
    | none => rfl
    | some o =>
      cases o with
      | cells c t f =>
        simp only [Option.map_some]
        cases a.spot with
        | some _ => rfl
        | none =>
          by_cases ho : a.off < c.size <;> simp [ho]
      | _ => rfl
  · rw [World.cell?_setCell_other w a b v h]

def outS (s : ByteArray) (n : Int) : ByteArray × Int := if n = 0 then (s, 0) else (⟨#[]⟩, n)

set_option maxHeartbeats 400000 in
theorem put_any (k : Nat) (hk : Enters k) (first cap : Array Value) (v1 : Value) (x : Int) (s : ByteArray) (n : Int) (w : World)
    (hc : ∀ w1, Below w.heap.size w w1 → Calls Try.prog k (first.push (.int .i64 x) ++ cap) w1 fun e w2 => e = ret2 (s, n) ∧ Below w1.heap.size w1 w2) :
    Calls Try.prog 20 #[.agg #[.func (.func k) first cap, v1], .int .i64 x] w fun e w' => e = ret2 (outS s n) ∧ Below w.heap.size w w' := by
  have hmf := @mk_func
  have hkk := hk.out
  unfold ret2 at hc
  have HC := Lib.hid hc
  clear hc
  go_enter_defers Try.func20, Try.ntmps20
  go_wp2_with (go_at_call 76; refine (none_func _ _ _ _ _).mono ?_; rintro e w' ⟨rfl, rfl⟩)
  refine (HC.out _ (((((Below.refl _ _).alloc (Nat.le_refl _) _).alloc (by simp) _).alloc (by simp; omega) _).alloc (by simp; omega) _)).mono ?_
  rintro e w2 ⟨rfl, hb⟩
  have hcells := bcell hb
  have hz := hb.size
  simp at hz
  have hbase : Below w.heap.size w w2 := (((((Below.refl _ _).alloc (Nat.le_refl _) _).alloc (by simp) _).alloc (by simp; omega) _).alloc (by simp; omega) _).trans (hb.mono (by simp; omega))
  have HB := Lib.hid hbase
  have C1 : Hid (w2.cell? ⟨w.heap.size + 1, 0, none⟩ = some (.string { data := #[] })) := by
    refine Lib.hid ?_
    rw [hcells.1 _ _ (by simp)]; simp [go_sem]
  have C2 : Hid (w2.cell? ⟨w.heap.size + 1 + 1, 0, none⟩ = some (.int .i64 0)) := by
    refine Lib.hid ?_
    rw [hcells.1 _ _ (by simp)]; simp [go_sem]
  clear hbase hb
  by_cases h0 : n = 0
  · subst h0
    go_wp2
    refine leaves_cons (f := 77) (args := #[.pointer (some ⟨w.heap.size + 1, 0, none⟩), .pointer (some ⟨w.heap.size + 1 + 1, 0, none⟩)]) (by simp) (by simp [go_sem]) ?_
    refine (d34_idle _ _ _).mono ?_
    rintro e u' w'' ⟨rfl, rfl, rfl⟩
    simp [Leaves, settle, results, Try.results20, go_sem, C1.out, C2.out, World.cell?_setCell_other, isSome_setCell]
    refine ⟨by simp [ret2, outS], ?_⟩
    repeat (first | exact HB.out | refine Below.drew ?_ | refine Below.setCell ?_ (by dsimp only; omega) _)
  · have h0' : (n != 0) = true := by simpa using h0
    go_wp2
    go_region
    all_goals go_wp2
    all_goals refine leaves_cons (f := 77) (args := #[.pointer (some ⟨w.heap.size + 1, 0, none⟩), .pointer (some ⟨w.heap.size + 1 + 1, 0, none⟩)]) (by simp) (by simp [go_sem]) ?_
    all_goals refine (d34_idle _ _ _).mono ?_
    all_goals rintro e u' w'' ⟨rfl, rfl, rfl⟩
    all_goals simp [Leaves, settle, results, Try.results20, go_sem, C1.out, C2.out, World.cell?_setCell_other, isSome_setCell]
    all_goals refine ⟨by simp [ret2, outS, h0], ?_⟩
    all_goals repeat (first | exact HB.out | refine Below.drew ?_ | refine Below.setCell ?_ (by dsimp only; omega) _)

theorem d37_idle (p q r s u : Option Addr) (w : World) :
    CallsD Try.prog 80 #[.pointer p, .pointer q, .pointer r, .pointer s, .pointer u] .returning w fun e u' w' => e = .returned (.tuple #[]) ∧ u' = .returning ∧ w' = w := by
  refine callsD_of_wpS Try.func80 rfl fun c₀ cs hu => ?_
  apply wpS_seq
  apply wpS_region
  simp [wpOpsS, go_sem, recoverD, hu, Try.ntmps80, Exit.thenS]
  refine wpS_cond (t := false) (by simp [Act.eval, Array.replicate]) ?_
  simp only [Bool.false_eq_true, if_false]
  refine wpS_of_wp (wp_skip ?_)
  cases c₀
  simp_all [bodyPostS, results, Try.results80]

end Go.Proofs.Ytcbjekdbkhibbaa
