/- The contract of Next of a codec of terms (layers 1 and 2), told of whatever functions are in it. -/
import Derived.Test.YtekbdbcomfleeaaPc
import Derived.Test.YtekbdbcomfleeaaTf
namespace Go.Proofs.Ytekbdbcomfleeaa
open Go.RowKit

def Val_t (x0 : Int) (x1 : Int) (x2 : Int) : Value := .agg #[.int .i64 x0, .int .i64 x1, .int .i64 x2]
/-- A call ends with a value, a place and an error; beside an error the value and the place are whatever they are. -/
def Post_t (w : World) (d : TermL) (m n : Int) (e : Ending) (w' : World) : Prop :=
  ∃ (x0 : Int) (x1 : Int) (x2 : Int) (m' : Int), e = .returned (.tuple #[Val_t x0 x1 x2, .int .i64 m', .int .i64 n]) ∧ (n = 0 → m' = m ∧ x0 = d.op ∧ x1 = d.n ∧ x2 = d.on) ∧ Below w.heap.size w w'
/-- A call of Next ends with a value, a place and an error. -/
def Ret_t (w : World) (d : TermL) (m n : Int) (e : Ending) (w' : World) : Prop :=
  ∃ (x0 : Int) (x1 : Int) (x2 : Int), e = .returned (.tuple #[Val_t x0 x1 x2, .int .i64 m, .int .i64 n]) ∧ (x0 = d.op ∧ x1 = d.n ∧ x2 = d.on) ∧ Below w.heap.size w w'

theorem nd_t (p q r s u : Option Addr) (w : World) :
    CallsD Try.prog 97 #[.pointer p, .pointer q, .pointer r, .pointer s, .pointer u] .returning w fun e u' w' => e = .returned (.tuple #[]) ∧ u' = .returning ∧ w' = w := by
  refine callsD_of_wpS Try.func97 rfl fun c₀ cs hu => ?_
  apply wpS_seq
  apply wpS_region
  simp [wpOpsS, go_sem, recoverD, hu, Try.ntmps97, Exit.thenS]
  refine wpS_cond (t := false) (by simp [Act.eval, Array.replicate]) ?_
  simp only [Bool.false_eq_true, if_false]
  refine wpS_of_wp (wp_skip ?_)
  cases c₀
  simp_all [bodyPostS, results, Try.results97]

theorem leave_t (tmps : Array Value) (b6 b7 b8 : Nat) (x0 : Int) (x1 : Int) (x2 : Int) (m n : Int) (R : Ending → World → Prop) (W : World)
    (h6 : tmps[6]? = some (.pointer (some ⟨b6, 0, none⟩))) (h7 : tmps[7]? = some (.pointer (some ⟨b7, 0, none⟩))) (h8 : tmps[8]? = some (.pointer (some ⟨b8, 0, none⟩)))
    (c6_0 : W.cell? ⟨b6, 0, none⟩ = some (.int .i64 x0)) (c6_1 : W.cell? ⟨b6, 1, none⟩ = some (.int .i64 x1)) (c6_2 : W.cell? ⟨b6, 2, none⟩ = some (.int .i64 x2)) (c7 : W.cell? ⟨b7, 0, none⟩ = some (.int .i64 m)) (c8 : W.cell? ⟨b8, 0, none⟩ = some (.int .i64 n))
    (hR : R (.returned (.tuple #[Val_t x0 x1 x2, .int .i64 m, .int .i64 n])) W) : Leaves Try.prog Try.f81 tmps R [] .returning W := by
  refine ⟨_, ?_, hR⟩
  simp [Val_t, results, Try.results81, go_sem, h6, h7, h8, c6_0, c6_1, c6_2, c7, c8]

set_option maxRecDepth 100000 in
set_option maxHeartbeats 4000000 in
theorem nexty_t (k : Nat) (hk : Enters k) (first cap : Array Value) (v0 : Fn) (fi0 ca0 : Array Value) (s : ByteArray) (a : Nat) (d : TermL) (m : Int) (w : World) (_ha : a ≤ s.size) (_hs : s.size ≤ maxLen)
    (hc : ∀ w1, Below w.heap.size w w1 → Calls Try.prog k (first ++ (#[.string s, .int .i64 a] ++ cap)) w1 (Post_t w1 d m 0)) :
    Calls Try.prog 81 #[.agg #[.func v0 fi0 ca0, .func (.func k) first cap], .string s, .int .i64 a] w (Ret_t w d m 0) := by
  have hmf := @mk_func
  have hkk := hk.out
  unfold maxLen at _hs
  have HC := Lib.hid hc
  have hd : decide ((a : Int) < 0) = false := by simp
  clear hc
  go_enter_defers Try.func81, Try.ntmps81
  go_wp2_with (go_at_call 55; refine (none_t _ _ _ _ _).mono ?_; rintro e w' ⟨rfl, rfl⟩)
  refine (HC.out _ ((((((((Below.refl _ _).alloc (Nat.le_refl _) _).alloc (by simp) _).alloc (by simp; omega) _).alloc (by simp; omega) _).alloc (by simp; omega) _).alloc (by simp; omega) _).alloc (by simp; omega) _)).mono ?_
  rintro e w2 ⟨x0, x1, x2, m', rfl, hq, hb⟩
  unfold Val_t
  have HQ := Lib.hid hq
  have hcells := bcell hb
  have hz := hb.size
  simp at hz
  have hbase : Below w.heap.size w w2 := ((((((((Below.refl _ _).alloc (Nat.le_refl _) _).alloc (by simp) _).alloc (by simp; omega) _).alloc (by simp; omega) _).alloc (by simp; omega) _).alloc (by simp; omega) _).alloc (by simp; omega) _).trans (hb.mono (by simp; omega))
  have HB := Lib.hid hbase
  have C1 := Lib.hid (show w2.cell? ⟨w.heap.size + 1, 0, none⟩ = some (.int .i64 a) by rw [hcells.1 _ _ (by simp)]; simp [go_sem])
  have C2_0 := Lib.hid (show w2.cell? ⟨w.heap.size + 1 + 1, 0, none⟩ = some (.int .i64 0) by rw [hcells.1 _ _ (by simp)]; simp [go_sem])
  have C2_1 := Lib.hid (show w2.cell? ⟨w.heap.size + 1 + 1, 1, none⟩ = some (.int .i64 0) by rw [hcells.1 _ _ (by simp)]; simp [go_sem])
  have C2_2 := Lib.hid (show w2.cell? ⟨w.heap.size + 1 + 1, 2, none⟩ = some (.int .i64 0) by rw [hcells.1 _ _ (by simp)]; simp [go_sem])
  have C3 := Lib.hid (show w2.cell? ⟨w.heap.size + 1 + 1 + 1, 0, none⟩ = some (.int .i64 0) by rw [hcells.1 _ _ (by simp)]; simp [go_sem])
  have C4 := Lib.hid (show w2.cell? ⟨w.heap.size + 1 + 1 + 1 + 1, 0, none⟩ = some (.int .i64 0) by rw [hcells.1 _ _ (by simp)]; simp [go_sem])
  have C5_0 := Lib.hid (show w2.cell? ⟨w.heap.size + 1 + 1 + 1 + 1 + 1, 0, none⟩ = some (.int .i64 0) by rw [hcells.1 _ _ (by simp)]; simp [go_sem])
  have C5_1 := Lib.hid (show w2.cell? ⟨w.heap.size + 1 + 1 + 1 + 1 + 1, 1, none⟩ = some (.int .i64 0) by rw [hcells.1 _ _ (by simp)]; simp [go_sem])
  have C5_2 := Lib.hid (show w2.cell? ⟨w.heap.size + 1 + 1 + 1 + 1 + 1, 2, none⟩ = some (.int .i64 0) by rw [hcells.1 _ _ (by simp)]; simp [go_sem])
  clear hbase hb hq
  obtain ⟨hm', hq'⟩ := HQ.out rfl
  have HM := Lib.hid hm'
  have HK := Lib.hid hq'
  clear hm' hq' HQ
  go_wp2
  go_region
  all_goals go_wp2
  all_goals refine leaves_cons (f := 97) (args := #[.pointer (some ⟨w.heap.size + 1 + 1 + 1 + 1 + 1, 0, none⟩), .pointer (some ⟨w.heap.size + 1, 0, none⟩), .pointer (some ⟨w.heap.size + 1 + 1, 0, none⟩), .pointer (some ⟨w.heap.size + 1 + 1 + 1, 0, none⟩), .pointer (some ⟨w.heap.size + 1 + 1 + 1 + 1, 0, none⟩)]) (by simp) (by simp [go_sem]) ?_
  all_goals refine (nd_t _ _ _ _ _ _).mono ?_
  all_goals rintro e u' w'' ⟨rfl, rfl, rfl⟩
  all_goals refine leave_t _ (w.heap.size + 1 + 1) (w.heap.size + 1 + 1 + 1) (w.heap.size + 1 + 1 + 1 + 1) x0 x1 x2 m' 0 _ _ rfl rfl rfl ?_ ?_ ?_ ?_ ?_ ⟨x0, x1, x2, by rw [HM.out], ?_, ?_⟩
  all_goals first | exact HK.out | (with_reducible refine Below.drew ?_; repeat (first | with_reducible exact HB.out | with_reducible refine Below.setCell ?_ (by dsimp only; omega) _)) | (simp [C2_0.out, C2_1.out, C2_2.out, C3.out, C4.out, World.cell?_setCell_other, isSome_setCell, go_sem]; done)

set_option maxRecDepth 100000 in
set_option maxHeartbeats 4000000 in
theorem nextn_t (k : Nat) (hk : Enters k) (first cap : Array Value) (v0 : Fn) (fi0 ca0 : Array Value) (s : ByteArray) (a : Nat) (d : TermL) (m n : Int) (h0 : n ≠ 0) (w : World) (_ha : a ≤ s.size) (_hs : s.size ≤ maxLen)
    (hc : ∀ w1, Below w.heap.size w w1 → Calls Try.prog k (first ++ (#[.string s, .int .i64 a] ++ cap)) w1 (Post_t w1 d m n)) :
    Calls Try.prog 81 #[.agg #[.func v0 fi0 ca0, .func (.func k) first cap], .string s, .int .i64 a] w (Ret_t w zeroT a n) := by
  have h0' : (n != 0) = true := by simpa using h0
  clear h0
  have hmf := @mk_func
  have hkk := hk.out
  unfold maxLen at _hs
  have HC := Lib.hid hc
  have hd : decide ((a : Int) < 0) = false := by simp
  clear hc
  go_enter_defers Try.func81, Try.ntmps81
  go_wp2_with (go_at_call 55; refine (none_t _ _ _ _ _).mono ?_; rintro e w' ⟨rfl, rfl⟩)
  refine (HC.out _ ((((((((Below.refl _ _).alloc (Nat.le_refl _) _).alloc (by simp) _).alloc (by simp; omega) _).alloc (by simp; omega) _).alloc (by simp; omega) _).alloc (by simp; omega) _).alloc (by simp; omega) _)).mono ?_
  rintro e w2 ⟨x0, x1, x2, m', rfl, hq, hb⟩
  unfold Val_t
  have HQ := Lib.hid hq
  have hcells := bcell hb
  have hz := hb.size
  simp at hz
  have hbase : Below w.heap.size w w2 := ((((((((Below.refl _ _).alloc (Nat.le_refl _) _).alloc (by simp) _).alloc (by simp; omega) _).alloc (by simp; omega) _).alloc (by simp; omega) _).alloc (by simp; omega) _).alloc (by simp; omega) _).trans (hb.mono (by simp; omega))
  have HB := Lib.hid hbase
  have C1 := Lib.hid (show w2.cell? ⟨w.heap.size + 1, 0, none⟩ = some (.int .i64 a) by rw [hcells.1 _ _ (by simp)]; simp [go_sem])
  have C2_0 := Lib.hid (show w2.cell? ⟨w.heap.size + 1 + 1, 0, none⟩ = some (.int .i64 0) by rw [hcells.1 _ _ (by simp)]; simp [go_sem])
  have C2_1 := Lib.hid (show w2.cell? ⟨w.heap.size + 1 + 1, 1, none⟩ = some (.int .i64 0) by rw [hcells.1 _ _ (by simp)]; simp [go_sem])
  have C2_2 := Lib.hid (show w2.cell? ⟨w.heap.size + 1 + 1, 2, none⟩ = some (.int .i64 0) by rw [hcells.1 _ _ (by simp)]; simp [go_sem])
  have C3 := Lib.hid (show w2.cell? ⟨w.heap.size + 1 + 1 + 1, 0, none⟩ = some (.int .i64 0) by rw [hcells.1 _ _ (by simp)]; simp [go_sem])
  have C4 := Lib.hid (show w2.cell? ⟨w.heap.size + 1 + 1 + 1 + 1, 0, none⟩ = some (.int .i64 0) by rw [hcells.1 _ _ (by simp)]; simp [go_sem])
  have C5_0 := Lib.hid (show w2.cell? ⟨w.heap.size + 1 + 1 + 1 + 1 + 1, 0, none⟩ = some (.int .i64 0) by rw [hcells.1 _ _ (by simp)]; simp [go_sem])
  have C5_1 := Lib.hid (show w2.cell? ⟨w.heap.size + 1 + 1 + 1 + 1 + 1, 1, none⟩ = some (.int .i64 0) by rw [hcells.1 _ _ (by simp)]; simp [go_sem])
  have C5_2 := Lib.hid (show w2.cell? ⟨w.heap.size + 1 + 1 + 1 + 1 + 1, 2, none⟩ = some (.int .i64 0) by rw [hcells.1 _ _ (by simp)]; simp [go_sem])
  clear hbase hb hq
  clear HQ
  go_wp2
  go_region
  all_goals go_wp2
  all_goals refine leaves_cons (f := 97) (args := #[.pointer (some ⟨w.heap.size + 1 + 1 + 1 + 1 + 1, 0, none⟩), .pointer (some ⟨w.heap.size + 1, 0, none⟩), .pointer (some ⟨w.heap.size + 1 + 1, 0, none⟩), .pointer (some ⟨w.heap.size + 1 + 1 + 1, 0, none⟩), .pointer (some ⟨w.heap.size + 1 + 1 + 1 + 1, 0, none⟩)]) (by simp) (by simp [go_sem]) ?_
  all_goals refine (nd_t _ _ _ _ _ _).mono ?_
  all_goals rintro e u' w'' ⟨rfl, rfl, rfl⟩
  all_goals refine leave_t _ (w.heap.size + 1 + 1) (w.heap.size + 1 + 1 + 1) (w.heap.size + 1 + 1 + 1 + 1) 0 0 0 a n _ _ rfl rfl rfl ?_ ?_ ?_ ?_ ?_ ⟨0, 0, 0, rfl, ⟨rfl, rfl, rfl⟩, ?_⟩
  all_goals first | (with_reducible refine Below.drew ?_; repeat (first | with_reducible exact HB.out | with_reducible refine Below.setCell ?_ (by dsimp only; omega) _)) | (simp [C2_0.out, C2_1.out, C2_2.out, C3.out, C4.out, World.cell?_setCell_other, isSome_setCell, go_sem]; done)

set_option maxRecDepth 100000 in
set_option maxHeartbeats 2000000 in
theorem nextb_t (v0 : Fn) (fi0 ca0 : Array Value) (v1 : Value) (s : ByteArray) (a : Int) (w : World) (ha : a < 0 ∨ (s.size : Int) < a) (_hs : s.size ≤ maxLen) :
    Calls Try.prog 81 #[.agg #[.func v0 fi0 ca0, v1], .string s, .int .i64 a] w (Ret_t w zeroT a 1) := by
  have hmf := @mk_func
  unfold maxLen at _hs
  by_cases h0 : a < 0
  · have hd : decide (a < 0) = true := by simpa using h0
    go_enter_defers Try.func81, Try.ntmps81
    go_wp2_with (go_at_call 55; refine (none_t _ _ _ _ _).mono ?_; rintro e w' ⟨rfl, rfl⟩)
    go_region
    all_goals go_wp2
    all_goals refine door_ret ?_
    all_goals refine leave_t _ (w.heap.size + 1 + 1) (w.heap.size + 1 + 1 + 1) (w.heap.size + 1 + 1 + 1 + 1) 0 0 0 a 1 _ _ rfl rfl rfl ?_ ?_ ?_ ?_ ?_ ⟨0, 0, 0, rfl, ⟨rfl, rfl, rfl⟩, ?_⟩
    all_goals first | (with_reducible refine Below.drew ?_; repeat (first | with_reducible exact Below.refl _ _ | with_reducible refine Below.alloc ?_ (by simp; try omega) _)) | (simp [go_sem]; done)
  · have hd : decide (a < 0) = false := by simpa using h0
    go_enter_defers Try.func81, Try.ntmps81
    go_wp2_with (go_at_call 55; refine (none_t _ _ _ _ _).mono ?_; rintro e w' ⟨rfl, rfl⟩)
    go_region
    all_goals go_wp2
    all_goals refine door_ret ?_
    all_goals refine leave_t _ (w.heap.size + 1 + 1) (w.heap.size + 1 + 1 + 1) (w.heap.size + 1 + 1 + 1 + 1) 0 0 0 a 1 _ _ rfl rfl rfl ?_ ?_ ?_ ?_ ?_ ⟨0, 0, 0, rfl, ⟨rfl, rfl, rfl⟩, ?_⟩
    all_goals first | (with_reducible refine Below.drew ?_; repeat (first | with_reducible exact Below.refl _ _ | with_reducible refine Below.alloc ?_ (by simp; try omega) _)) | (simp [go_sem]; done)
end Go.Proofs.Ytekbdbcomfleeaa
