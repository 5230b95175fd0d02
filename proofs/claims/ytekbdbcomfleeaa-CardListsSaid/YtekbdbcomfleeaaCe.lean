/- The contracts of numbersFit, termsFit, whenFits and castFits (layer 2, card), of any card. -/
import Derived.Test.YtekbdbcomfleeaaCd
import Derived.Laws.StructEq
namespace Go.Proofs.Ytekbdbcomfleeaa
open Go.RowKit

def firstB (c : CardL) (k : Nat) : Bool :=
  (decide (k ≤ 0) || inB c.kind 4) && ((decide (k ≤ 1) || inB c.cost 9) && ((decide (k ≤ 2) || inB c.power 20) && ((decide (k ≤ 3) || inB c.tough 20) && ((decide (k ≤ 4) || inB c.keys 31) && (decide (k ≤ 5) || inB c.whn 3)))))

def RetB (w : World) (b : Bool) (e : Ending) (w' : World) : Prop := e = .returned (.bool b) ∧ Below w.heap.size w w'

theorem part60 (a b c d e f : Value) (W : World) : (part 3 #[a, b, c, d, e, f] 0).run Try.prog W = .ok a W := by kernel_rfl
theorem part61 (a b c d e f : Value) (W : World) : (part 3 #[a, b, c, d, e, f] 1).run Try.prog W = .ok b W := by kernel_rfl
theorem part62 (a b c d e f : Value) (W : World) : (part 3 #[a, b, c, d, e, f] 2).run Try.prog W = .ok c W := by kernel_rfl
theorem part63 (a b c d e f : Value) (W : World) : (part 3 #[a, b, c, d, e, f] 3).run Try.prog W = .ok d W := by kernel_rfl
theorem part64 (a b c d e f : Value) (W : World) : (part 3 #[a, b, c, d, e, f] 4).run Try.prog W = .ok e W := by kernel_rfl
theorem part65 (a b c d e f : Value) (W : World) : (part 3 #[a, b, c, d, e, f] 5).run Try.prog W = .ok f W := by kernel_rfl
theorem eq3 (d : Nat) (x y : Int) (w : World) : (Op.equalIn (d + 1) 3 (.int .i64 x) (.int .i64 y)).run Try.prog w = .ok (x == y) w := run_equalIn_int w d 3 _ _ x y Try.underlying3
theorem size3 (w : World) : (sizeOf 3).run Try.prog w = .ok 1 w := by kernel_rfl
set_option maxRecDepth 100000 in
theorem equal6 (n : Nat) (a b c d e f a' b' c' d' e' f' : Int) (W : World) : (Op.equalIn (n + 2) 76 (.agg #[.int .i64 a, .int .i64 b, .int .i64 c, .int .i64 d, .int .i64 e, .int .i64 f]) (.agg #[.int .i64 a', .int .i64 b', .int .i64 c', .int .i64 d', .int .i64 e', .int .i64 f'])).run Try.prog W = .ok (a == a' && (b == b' && (c == c' && (d == d' && (e == e' && f == f'))))) W := by
  generalize hX : #[Value.int .i64 a, .int .i64 b, .int .i64 c, .int .i64 d, .int .i64 e, .int .i64 f] = X
  generalize hY : #[Value.int .i64 a', .int .i64 b', .int .i64 c', .int .i64 d', .int .i64 e', .int .i64 f'] = Y
  have p0 := fun W => hX ▸ part60 (.int .i64 a) (.int .i64 b) (.int .i64 c) (.int .i64 d) (.int .i64 e) (.int .i64 f) W
  have p1 := fun W => hX ▸ part61 (.int .i64 a) (.int .i64 b) (.int .i64 c) (.int .i64 d) (.int .i64 e) (.int .i64 f) W
  have p2 := fun W => hX ▸ part62 (.int .i64 a) (.int .i64 b) (.int .i64 c) (.int .i64 d) (.int .i64 e) (.int .i64 f) W
  have p3 := fun W => hX ▸ part63 (.int .i64 a) (.int .i64 b) (.int .i64 c) (.int .i64 d) (.int .i64 e) (.int .i64 f) W
  have p4 := fun W => hX ▸ part64 (.int .i64 a) (.int .i64 b) (.int .i64 c) (.int .i64 d) (.int .i64 e) (.int .i64 f) W
  have p5 := fun W => hX ▸ part65 (.int .i64 a) (.int .i64 b) (.int .i64 c) (.int .i64 d) (.int .i64 e) (.int .i64 f) W
  have q0 := fun W => hY ▸ part60 (.int .i64 a') (.int .i64 b') (.int .i64 c') (.int .i64 d') (.int .i64 e') (.int .i64 f') W
  have q1 := fun W => hY ▸ part61 (.int .i64 a') (.int .i64 b') (.int .i64 c') (.int .i64 d') (.int .i64 e') (.int .i64 f') W
  have q2 := fun W => hY ▸ part62 (.int .i64 a') (.int .i64 b') (.int .i64 c') (.int .i64 d') (.int .i64 e') (.int .i64 f') W
  have q3 := fun W => hY ▸ part63 (.int .i64 a') (.int .i64 b') (.int .i64 c') (.int .i64 d') (.int .i64 e') (.int .i64 f') W
  have q4 := fun W => hY ▸ part64 (.int .i64 a') (.int .i64 b') (.int .i64 c') (.int .i64 d') (.int .i64 e') (.int .i64 f') W
  have q5 := fun W => hY ▸ part65 (.int .i64 a') (.int .i64 b') (.int .i64 c') (.int .i64 d') (.int .i64 e') (.int .i64 f') W
  clear hX hY
  rw [Op.equalIn]
  simp only [Sem.run_bind, run_underlying Try.underlying76, Result.andThen_ok, size3]
  rw [Std.Legacy.Range.forIn_eq_forIn_range']
  simp only [Std.Legacy.Range.size, Nat.sub_zero, Nat.add_sub_cancel, Nat.div_one, List.range', List.forIn_cons, List.forIn_nil, Nat.mul_one, Nat.zero_add, Sem.run_bind, p0, q0, Result.andThen_ok, eq3]
  by_cases h0 : a = a' <;> by_cases h1 : b = b' <;> by_cases h2 : c = c' <;> by_cases h3 : d = d' <;> by_cases h4 : e = e' <;> by_cases h5 : f = f' <;> simp [h0, h1, h2, h3, h4, h5, p1, p2, p3, p4, p5, q1, q2, q3, q4, q5, eq3]
theorem eqg6 (x y : Operand) (xs ys : Array Value) (W : World) : (eqGuard .eql 76 x y (.agg xs) (.agg ys)).run Try.prog W = .ok () W := run_eqGuard_agg W .eql 76 x y xs ys (by kernel_rfl)
def numAt (c : CardL) : Nat → Int
  | 0 => c.kind
  | 1 => c.cost
  | 2 => c.power
  | 3 => c.tough
  | 4 => c.keys
  | _ => c.whn
def mostAt : Nat → Int
  | 0 => 4
  | 1 => 9
  | 2 => 20
  | 3 => 20
  | 4 => 31
  | _ => 3
theorem six {k : Nat} (h : k < 6) : k = 0 ∨ k = 1 ∨ k = 2 ∨ k = 3 ∨ k = 4 ∨ k = 5 := by omega
theorem firstB_succ (c : CardL) (k : Nat) (h : k < 6) : firstB c (k + 1) = (firstB c k && inB (numAt c k) (mostAt k)) := by
  rcases six h with rfl | rfl | rfl | rfl | rfl | rfl <;> simp [firstB, numAt, mostAt, Bool.and_assoc, Bool.and_comm]
theorem firstB_no (c : CardL) (k : Nat) (h : k < 6) (hn : inB (numAt c k) (mostAt k) = false) : firstB c 6 = false := by
  rcases six h with rfl | rfl | rfl | rfl | rfl | rfl <;> simp [numAt, mostAt] at hn <;> simp [firstB, hn]
theorem idx60 (a b c d e f : Value) (W : World) : (Instr.index 76 (.agg #[a, b, c, d, e, f]) (.int .i64 0)).run Try.prog W = .ok a W := by kernel_rfl
theorem idx61 (a b c d e f : Value) (W : World) : (Instr.index 76 (.agg #[a, b, c, d, e, f]) (.int .i64 1)).run Try.prog W = .ok b W := by kernel_rfl
theorem idx62 (a b c d e f : Value) (W : World) : (Instr.index 76 (.agg #[a, b, c, d, e, f]) (.int .i64 2)).run Try.prog W = .ok c W := by kernel_rfl
theorem idx63 (a b c d e f : Value) (W : World) : (Instr.index 76 (.agg #[a, b, c, d, e, f]) (.int .i64 3)).run Try.prog W = .ok d W := by kernel_rfl
theorem idx64 (a b c d e f : Value) (W : World) : (Instr.index 76 (.agg #[a, b, c, d, e, f]) (.int .i64 4)).run Try.prog W = .ok e W := by kernel_rfl
theorem idx65 (a b c d e f : Value) (W : World) : (Instr.index 76 (.agg #[a, b, c, d, e, f]) (.int .i64 5)).run Try.prog W = .ok f W := by kernel_rfl
theorem idx6 (c : CardL) (k : Nat) (h : k < 6) (W : World) : (Instr.index 76 (nums6 c) (.int .i64 k)).run Try.prog W = .ok (.int .i64 (numAt c k)) W := by
  rcases six h with rfl | rfl | rfl | rfl | rfl | rfl
  · exact idx60 _ _ _ _ _ _ W
  · exact idx61 _ _ _ _ _ _ W
  · exact idx62 _ _ _ _ _ _ W
  · exact idx63 _ _ _ _ _ _ W
  · exact idx64 _ _ _ _ _ _ W
  · exact idx65 _ _ _ _ _ _ W

set_option maxRecDepth 100000 in
set_option maxHeartbeats 1600000 in
theorem numbersFit_any (c : CardL) (xa : Option Addr) (xn xc : Nat) (w : World) :
    Calls Try.prog 42 #[cagg c (.slice xa xn xc)] w (RetB w (numsB c)) := by
  have HF : Hid (numsB c = firstB c 6) := Lib.hid (by simp [firstB, numsB])
  rw [HF.out]
  unfold cagg
  go_enter Try.func42, Try.ntmps42
  go_wp2_with (go_at_call 40; refine (numbers_any c xa xn xc _).mono ?_; rintro e w2 ⟨rfl, hb2⟩)
  have hb2' : Below w.heap.size w w2 := (below_alloc2 ((Below.refl w.heap.size w).alloc (Nat.le_refl _) (.cells #[.int .i64 c.kind, .int .i64 c.cost, .int .i64 c.power, .int .i64 c.tough, .int .i64 c.keys, .int .i64 c.whn, .slice xa xn xc] 24)) (.cells #[.int .i64 4, .int .i64 9, .int .i64 20, .int .i64 20, .int .i64 31, .int .i64 3] 76)).trans (hb2.mono (by simp; omega))
  have HB := Lib.hid hb2'
  have hc := (bcell hb2).1
  have hm : ∀ k, k < 6 → w2.cell? ⟨w.heap.size + 1, k, none⟩ = some (.int .i64 (mostAt k)) := fun k hk => by
    rw [hc _ _ (by simp)]
    rcases six hk with rfl | rfl | rfl | rfl | rfl | rfl <;> simp [go_sem, mostAt]
  have HM := Lib.hid hm
  clear hc hb2 hb2' hm
  go_wp2
  go_loop [9] (fun i => ∃ k : Nat, k ≤ 6 ∧ i = .int .i64 k ∧ Hid (firstB c k = true)) (fun i => 6 - (intOf i).toNat)
  case atStart => exact ⟨0, by omega, rfl, Lib.hid (by simp [firstB])⟩
  case round =>
    obtain ⟨k, hk, rfl, HK⟩ := hrel
    by_cases hlt : k < 6
    · have hix := idx6 c k hlt
      have hmk := HM.out k hlt
      have hsucc := firstB_succ c k hlt
      rw [HK.out, Bool.true_and] at hsucc
      have hno := firstB_no c k hlt
      have HMO := Lib.hid (rfl : mostAt k = mostAt k)
      by_cases h0 : numAt c k < 0
      · have hd : decide (numAt c k < 0) = true := by simpa using h0
        have HN := Lib.hid (hno (by simp [inB]; omega))
        clear hno hsucc
        go_wp2
        go_ret
        exact ⟨ret_bool HN.out.symm, HB.out⟩
      · have hd : decide (numAt c k < 0) = false := by simpa using h0
        by_cases h1 : mostAt k < numAt c k
        · have hd1 : decide (mostAt k < numAt c k) = true := by simpa using h1
          have HN := Lib.hid (hno (by simp [inB]; omega))
          clear hno hsucc
          go_wp2
          go_ret
          exact ⟨ret_bool HN.out.symm, HB.out⟩
        · have hd1 : decide (mostAt k < numAt c k) = false := by simpa using h1
          have HN : Hid (firstB c (k + 1) = true) := Lib.hid (by rw [hsucc]; simp [inB]; omega)
          clear hno hsucc
          go_wp2
          go_round
          case rel => exact ⟨k + 1, by omega, by go_num, HN⟩
          case measure => simp [intOf]; omega
    · obtain rfl : k = 6 := by omega
      go_wp2
      go_ret
      exact ⟨ret_bool HK.out.symm, HB.out⟩
end Go.Proofs.Ytekbdbcomfleeaa
