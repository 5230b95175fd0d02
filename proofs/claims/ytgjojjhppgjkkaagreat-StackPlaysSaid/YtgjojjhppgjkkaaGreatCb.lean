/- The contract of card.Check (layer 2). -/
import Derived.Test.YtgjojjhppgjkkaaGreatCa
import Derived.Laws.StructEq
namespace Go.Proofs.YtgjojjhppgjkkaaGreat.Crd
open Go.RowKit

def firstB (c : CardL) (k : Nat) : Bool :=
  (decide (k ≤ 0) || inB c.kind 4) && ((decide (k ≤ 1) || inB c.cost 9) && ((decide (k ≤ 2) || inB c.power 20) && ((decide (k ≤ 3) || inB c.tough 20) && ((decide (k ≤ 4) || inB c.keys 31) && (decide (k ≤ 5) || inB c.whn 3)))))

def RetB (w : World) (b : Bool) (e : Ending) (w' : World) : Prop := e = .returned (.bool b) ∧ Below w.heap.size w w'

theorem part60 (a b c d e f : Value) (W : World) : (part 3 #[a, b, c, d, e, f] 0).run Tryz.prog W = .ok a W := by kernel_rfl
theorem part61 (a b c d e f : Value) (W : World) : (part 3 #[a, b, c, d, e, f] 1).run Tryz.prog W = .ok b W := by kernel_rfl
theorem part62 (a b c d e f : Value) (W : World) : (part 3 #[a, b, c, d, e, f] 2).run Tryz.prog W = .ok c W := by kernel_rfl
theorem part63 (a b c d e f : Value) (W : World) : (part 3 #[a, b, c, d, e, f] 3).run Tryz.prog W = .ok d W := by kernel_rfl
theorem part64 (a b c d e f : Value) (W : World) : (part 3 #[a, b, c, d, e, f] 4).run Tryz.prog W = .ok e W := by kernel_rfl
theorem part65 (a b c d e f : Value) (W : World) : (part 3 #[a, b, c, d, e, f] 5).run Tryz.prog W = .ok f W := by kernel_rfl
theorem eq3 (d : Nat) (x y : Int) (w : World) : (Op.equalIn (d + 1) 3 (.int .i64 x) (.int .i64 y)).run Tryz.prog w = .ok (x == y) w := run_equalIn_int w d 3 _ _ x y Tryz.underlying3
theorem size3 (w : World) : (sizeOf 3).run Tryz.prog w = .ok 1 w := by kernel_rfl
set_option maxRecDepth 100000 in
theorem equal6 (n : Nat) (a b c d e f a' b' c' d' e' f' : Int) (W : World) : (Op.equalIn (n + 2) 178 (.agg #[.int .i64 a, .int .i64 b, .int .i64 c, .int .i64 d, .int .i64 e, .int .i64 f]) (.agg #[.int .i64 a', .int .i64 b', .int .i64 c', .int .i64 d', .int .i64 e', .int .i64 f'])).run Tryz.prog W = .ok (a == a' && (b == b' && (c == c' && (d == d' && (e == e' && f == f'))))) W := by
  generalize hX : #[Value.int .i64 a, .int .i64 b, .int .i64 c, .int .i64 d, .int .i64 e, .int .i64 f] = X
  generalize hY : #[Value.int .i64 a', .int .i64 b', .int .i64 c', .int .i64 d', .int .i64 e', .int .i64 f'] = Y
  have p0 := fun W => hX ▸ part60 (.int .i64 a) (.int .i64 b) (.int .i64 c) (.int .i64 d) (.int .i64 e) (.int .i64 f) W
  have p1 := fun W => hX ▸ part61 (.int .i64 a) (.int .i64 b) (.int .i64 c) (.int .i64 d) (.int .i64 e) (.int .i64 f) W
  have p2 := fun W => hX ▸ part62 (.int .i64 a) (.int .i64 b) (.int .i64 c) (.int .i64 d) (.int .i64 e) (.int .i64 f) W
  have p3 := fun W => hX ▸ part63 (.int .i64 a) (.int .i64 b) (.int .i64 c) (.int .i64 d) (.int .i64 e) (.int .i64 f) W
  have p4 := fun W => hX ▸ part64 (.int .i64 a) (.int .i64 b) (.int .i64 c) (.int .i64 d) (.int .i64 e) (.int .i64 f) W
  have p5 := fun W => hX ▸ part65 (.int .i64 a) (.int .i64 b) (.int .i64 c) (.int .i64 d) (.int .i64 e) (.int .i64 f) W
  have q0 := fun W => hY ▸ part60 (.int .i64 a') (.int .i64 b') (.int .i64 c') (.int .i64 d') (.int .i64 e') (.int .i64 f') W
  have q1 := fun W => hY ▸ part61 (.int .i64 a') (.int .i64 b') (.int .i64 c') (.int .i64 d') (.int .i64 e') (.int .i64 f') W
  have q2 := fun W => hY ▸ part62 (.int .i64 a') (.int .i64 b') (.int .i64 c') (.int .i64 d') (.int .i64 e') (.int .i64 f') W
  have q3 := fun W => hY ▸ part63 (.int .i64 a') (.int .i64 b') (.int .i64 c') (.int .i64 d') (.int .i64 e') (.int .i64 f') W
  have q4 := fun W => hY ▸ part64 (.int .i64 a') (.int .i64 b') (.int .i64 c') (.int .i64 d') (.int .i64 e') (.int .i64 f') W
  have q5 := fun W => hY ▸ part65 (.int .i64 a') (.int .i64 b') (.int .i64 c') (.int .i64 d') (.int .i64 e') (.int .i64 f') W
  clear hX hY
  rw [Op.equalIn]
  simp only [Sem.run_bind, run_underlying Tryz.underlying178, Result.andThen_ok, size3]
  rw [Std.Legacy.Range.forIn_eq_forIn_range']
  simp only [Std.Legacy.Range.size, Nat.sub_zero, Nat.add_sub_cancel, Nat.div_one, List.range', List.forIn_cons, List.forIn_nil, Nat.mul_one, Nat.zero_add, Sem.run_bind, p0, q0, Result.andThen_ok, eq3]
  by_cases h0 : a = a' <;> by_cases h1 : b = b' <;> by_cases h2 : c = c' <;> by_cases h3 : d = d' <;> by_cases h4 : e = e' <;> by_cases h5 : f = f' <;> simp [h0, h1, h2, h3, h4, h5, p1, p2, p3, p4, p5, q1, q2, q3, q4, q5, eq3]
theorem eqg6 (x y : Operand) (xs ys : Array Value) (W : World) : (eqGuard .eql 178 x y (.agg xs) (.agg ys)).run Tryz.prog W = .ok () W := run_eqGuard_agg W .eql 178 x y xs ys (by kernel_rfl)
def numAt (c : CardL) : Nat → Int
  | 0 => c.kind
  | 1 => c.cost
  | 2 => c.power
  | 3 => c.tough
  | 4 => c.keys
  | _ => c.whn
def mostAt : Nat → Int
  | 0 => 4
  | 1 => 9
  | 2 => 20
  | 3 => 20
  | 4 => 31
  | _ => 3
theorem six {k : Nat} (h : k < 6) : k = 0 ∨ k = 1 ∨ k = 2 ∨ k = 3 ∨ k = 4 ∨ k = 5 := by omega
theorem firstB_succ (c : CardL) (k : Nat) (h : k < 6) : firstB c (k + 1) = (firstB c k && inB (numAt c k) (mostAt k)) := by
  rcases six h with rfl | rfl | rfl | rfl | rfl | rfl <;> simp [firstB, numAt, mostAt, Bool.and_assoc, Bool.and_comm]
theorem firstB_no (c : CardL) (k : Nat) (h : k < 6) (hn : inB (numAt c k) (mostAt k) = false) : firstB c 6 = false := by
  rcases six h with rfl | rfl | rfl | rfl | rfl | rfl <;> simp [numAt, mostAt] at hn <;> simp [firstB, hn]
theorem idx60 (a b c d e f : Value) (W : World) : (Instr.index 178 (.agg #[a, b, c, d, e, f]) (.int .i64 0)).run Tryz.prog W = .ok a W := by kernel_rfl
theorem idx61 (a b c d e f : Value) (W : World) : (Instr.index 178 (.agg #[a, b, c, d, e, f]) (.int .i64 1)).run Tryz.prog W = .ok b W := by kernel_rfl
theorem idx62 (a b c d e f : Value) (W : World) : (Instr.index 178 (.agg #[a, b, c, d, e, f]) (.int .i64 2)).run Tryz.prog W = .ok c W := by kernel_rfl
theorem idx63 (a b c d e f : Value) (W : World) : (Instr.index 178 (.agg #[a, b, c, d, e, f]) (.int .i64 3)).run Tryz.prog W = .ok d W := by kernel_rfl
theorem idx64 (a b c d e f : Value) (W : World) : (Instr.index 178 (.agg #[a, b, c, d, e, f]) (.int .i64 4)).run Tryz.prog W = .ok e W := by kernel_rfl
theorem idx65 (a b c d e f : Value) (W : World) : (Instr.index 178 (.agg #[a, b, c, d, e, f]) (.int .i64 5)).run Tryz.prog W = .ok f W := by kernel_rfl
theorem idx6 (c : CardL) (k : Nat) (h : k < 6) (W : World) : (Instr.index 178 (nums6 c) (.int .i64 k)).run Tryz.prog W = .ok (.int .i64 (numAt c k)) W := by
  rcases six h with rfl | rfl | rfl | rfl | rfl | rfl
  · exact idx60 _ _ _ _ _ _ W
  · exact idx61 _ _ _ _ _ _ W
  · exact idx62 _ _ _ _ _ _ W
  · exact idx63 _ _ _ _ _ _ W
  · exact idx64 _ _ _ _ _ _ W
  · exact idx65 _ _ _ _ _ _ W

set_option maxRecDepth 100000 in
set_option maxHeartbeats 1600000 in
theorem numbersFit_any (c : CardL) (xa : Option Addr) (xn xc : Nat) (w : World) :
    Calls Tryz.prog 126 #[cagg c (.slice xa xn xc)] w (RetB w (numsB c)) := by
  have HF : Hid (numsB c = firstB c 6) := Lib.hid (by simp [firstB, numsB])
  rw [HF.out]
  unfold cagg
  go_enter Tryz.func126, Tryz.ntmps126
  go_wp2_with (go_at_call 118; refine (numbers_any c xa xn xc _).mono ?_; rintro e w2 ⟨rfl, hb2⟩)
  have hb2' : Below w.heap.size w w2 := (below_alloc2 ((Below.refl w.heap.size w).alloc (Nat.le_refl _) (.cells #[.int .i64 c.kind, .int .i64 c.cost, .int .i64 c.power, .int .i64 c.tough, .int .i64 c.keys, .int .i64 c.whn, .slice xa xn xc] 45)) (.cells #[.int .i64 4, .int .i64 9, .int .i64 20, .int .i64 20, .int .i64 31, .int .i64 3] 178)).trans (hb2.mono (by simp; omega))
  have HB := Lib.hid hb2'
  have hc := (bcell hb2).1
  have hm : ∀ k, k < 6 → w2.cell? ⟨w.heap.size + 1, k, none⟩ = some (.int .i64 (mostAt k)) := fun k hk => by
    rw [hc _ _ (by simp)]
    rcases six hk with rfl | rfl | rfl | rfl | rfl | rfl <;> simp [go_sem, mostAt]
  have HM := Lib.hid hm
  clear hc hb2 hb2' hm
  go_wp2
  go_loop [9] (fun i => ∃ k : Nat, k ≤ 6 ∧ i = .int .i64 k ∧ Hid (firstB c k = true)) (fun i => 6 - (intOf i).toNat)
  case atStart => exact ⟨0, by omega, rfl, Lib.hid (by simp [firstB])⟩
  case round =>
    obtain ⟨k, hk, rfl, HK⟩ := hrel
    by_cases hlt : k < 6
    · have hix := idx6 c k hlt
      have hmk := HM.out k hlt
      have hsucc := firstB_succ c k hlt
      rw [HK.out, Bool.true_and] at hsucc
      have hno := firstB_no c k hlt
      have HMO := Lib.hid (rfl : mostAt k = mostAt k)
      by_cases h0 : numAt c k < 0
      · have hd : decide (numAt c k < 0) = true := by simpa using h0
        have HN := Lib.hid (hno (by simp [inB]; omega))
        clear hno hsucc
        go_wp2
        go_ret
        exact ⟨ret_bool HN.out.symm, HB.out⟩
      · have hd : decide (numAt c k < 0) = false := by simpa using h0
        by_cases h1 : mostAt k < numAt c k
        · have hd1 : decide (mostAt k < numAt c k) = true := by simpa using h1
          have HN := Lib.hid (hno (by simp [inB]; omega))
          clear hno hsucc
          go_wp2
          go_ret
          exact ⟨ret_bool HN.out.symm, HB.out⟩
        · have hd1 : decide (mostAt k < numAt c k) = false := by simpa using h1
          have HN : Hid (firstB c (k + 1) = true) := Lib.hid (by rw [hsucc]; simp [inB]; omega)
          clear hno hsucc
          go_wp2
          go_round
          case rel => exact ⟨k + 1, by omega, by go_num, HN⟩
          case measure => simp [intOf]; omega
    · obtain rfl : k = 6 := by omega
      go_wp2
      go_ret
      exact ⟨ret_bool HK.out.symm, HB.out⟩
end Go.Proofs.YtgjojjhppgjkkaaGreat.Crd
namespace Go.Proofs.YtgjojjhppgjkkaaGreat.Crd
open Go.RowKit

theorem below_new (w : World) (o : Obj) : Below w.heap.size w (w.alloc o) := (Below.refl _ _).alloc (Nat.le_refl _) _
theorem len_zero (n : Nat) : ((n : Int) == 0) = decide (n = 0) := by
  by_cases h : n = 0 <;> simp [h]
theorem len_pos (n : Nat) : decide ((0 : Int) < n) = decide (0 < n) := by
  by_cases h : 0 < n <;> simp [h]
theorem all_snoc (l : List TermL) (k : Nat) (h : k < l.length) (h0 : (l.take k).all termB = true) (h1 : termB l[k] = true) : (l.take (k + 1)).all termB = true := by
  rw [take_last l k h, List.all_append, h0]; simp [h1]
theorem all_no (l : List TermL) (k : Nat) (h : k < l.length) (h1 : termB l[k] = false) : l.all termB = false := by
  rw [List.all_eq_false]; exact ⟨l[k], List.getElem_mem h, by simp [h1]⟩
theorem aimed_yes (l : List TermL) (k : Nat) (h : k < l.length) (h1 : l[k].on ≠ 0) : aimedN (l.take (k + 1)) = aimedN (l.take k) + 1 := by
  rw [take_last l k h, aimedN_snoc, if_neg h1]
theorem aimed_no (l : List TermL) (k : Nat) (h : k < l.length) (h1 : l[k].on = 0) : aimedN (l.take (k + 1)) = aimedN (l.take k) := by
  rw [take_last l k h, aimedN_snoc, if_pos h1]; rfl

set_option maxRecDepth 100000 in
set_option maxHeartbeats 1600000 in
theorem termsFit_some (l : List TermL) (b off cap : Nat) (w : World) (hlen : l.length ≤ 9223372036854775807)
    (hc : ∀ i (h : i < l.length), w.cell? ⟨b, off + i * 3, none⟩ = some (.int .i64 l[i].op) ∧ w.cell? ⟨b, off + i * 3 + 1, none⟩ = some (.int .i64 l[i].n) ∧ w.cell? ⟨b, off + i * 3 + 2, none⟩ = some (.int .i64 l[i].on)) :
    Calls Tryz.prog 127 #[.slice (some ⟨b, off, none⟩) l.length cap] w (RetB w (termsB l)) := by
  have HC := Lib.hid hc
  clear hc
  by_cases h4 : 4 < l.length
  · have hd : decide ((4 : Int) < l.length) = true := by simp; omega
    have HT : Hid (termsB l = false) := Lib.hid (by simp [termsB]; omega)
    go_enter Tryz.func127, Tryz.ntmps127
    go_wp2
    go_ret
    exact ⟨ret_bool HT.out.symm, Below.refl _ _⟩
  · have hd : decide ((4 : Int) < l.length) = false := by simp; omega
    go_enter Tryz.func127, Tryz.ntmps127
    go_wp2
    go_loopw [3, 11] (fun n i wr => ∃ k : Nat, k ≤ l.length ∧ i = .int .i64 k ∧ n = .int .i64 (aimedN (l.take k)) ∧ Hid ((l.take k).all termB = true) ∧ Hid (Below w.heap.size w wr)) (fun _ i _ => l.length - (intOf i).toNat)
    case atStart => exact ⟨0, Nat.zero_le _, rfl, rfl, Lib.hid rfl, Lib.hid (Below.refl _ _)⟩
    case round =>
      obtain ⟨k, hk, rfl, rfl, HA, HB⟩ := hrel
      have hle := aimedN_le (l.take k)
      have hle2 := List.length_take_le k l
      by_cases hlt : k < l.length
      · have h3 := HC.out k hlt
        have c0 := cell_stays HB.out h3.1
        have c1 := cell_stays HB.out h3.2.1
        have c2 := cell_stays HB.out h3.2.2
        clear h3
        go_wp2_with fail
        refine (checkTerm_any l[k] _).mono ?_
        rintro e w3 ⟨rfl, hb3⟩
        have d2 : w3.cell? ⟨wr.heap.size, 2, none⟩ = some (.int .i64 l[k].on) := ((bcell hb3).1 _ 2 (show _ < _ by simp)).trans (by simp [go_sem])
        have HB3 := Lib.hid ((below_alloc2 HB.out _).trans (hb3.mono (below_alloc2 HB.out _).size))
        clear hb3 c0 c1 c2
        cases ht : termB l[k]
        · have HT : Hid (termsB l = false) := Lib.hid (by simp [termsB, all_no l k hlt ht])
          clear ht
          go_wp2
          go_ret
          exact ⟨ret_bool HT.out.symm, HB3.out⟩
        · have HA2 := Lib.hid (all_snoc l k hlt HA.out ht)
          clear ht
          by_cases h0 : l[k].on = 0
          · have hb : (l[k].on != 0) = false := by simp [h0]
            have HN := Lib.hid (aimed_no l k hlt h0)
            clear h0
            go_wp2
            go_roundw
            case rel => exact ⟨k + 1, by omega, by go_num, by rw [HN.out], HA2, HB3⟩
            case measure => simp [intOf]; omega
          · have hb : (l[k].on != 0) = true := by simp [h0]
            have HN := Lib.hid (aimed_yes l k hlt h0)
            clear h0
            go_wp2
            go_roundw
            case rel => exact ⟨k + 1, by omega, by go_num, by rw [HN.out]; go_num, HA2, HB3⟩
            case measure => simp [intOf]; omega
      · obtain rfl : k = l.length := by omega
        have HT : Hid (termsB l = decide ((aimedN l : Int) ≤ 1)) := Lib.hid (by
          have h1 := HA.out
          rw [List.take_length] at h1
          simp only [termsB, h1, Bool.true_and]
          have : decide (l.length ≤ 4) = true := by simp; omega
          rw [this, Bool.true_and]
          congr 1
          exact propext ⟨fun h => by omega, fun h => by omega⟩)
        go_wp2
        go_ret
        exact ⟨ret_bool HT.out.symm, HB.out⟩

set_option maxRecDepth 100000 in
set_option maxHeartbeats 800000 in
theorem termsFit_none (xa : Option Addr) (cap : Nat) (w : World) : Calls Tryz.prog 127 #[.slice xa 0 cap] w (RetB w (termsB [])) := by
  go_enter Tryz.func127, Tryz.ntmps127
  go_wp2
  go_loopw [3, 11] (fun n i wr => i = .int .i64 0 ∧ n = .int .i64 0 ∧ w = wr) (fun _ _ _ => 0)
  case atStart => exact ⟨rfl, rfl, rfl⟩
  case round =>
    obtain ⟨rfl, rfl, rfl⟩ := hrel
    go_wp2
    go_ret
    exact ⟨ret_bool rfl, Below.refl _ _⟩

theorem termsFit_any {l : List TermL} {v : Value} {w : World} (h : TermsIs w v l) (hlen : l.length ≤ 9223372036854775807) :
    Calls Tryz.prog 127 #[v] w (RetB w (termsB l)) := by
  rcases h with ⟨xa, cap, rfl, rfl⟩ | ⟨b, off, cap, rfl, _, hc⟩
  · exact termsFit_none xa cap w
  · exact termsFit_some l b off cap w hlen hc

set_option maxRecDepth 100000 in
set_option maxHeartbeats 1600000 in
theorem castFits_any (c : CardL) (xa : Option Addr) (xc : Nat) (w : World) :
    Calls Tryz.prog 137 #[cagg c (.slice xa c.terms.length xc)] w (RetB w (castB c)) := by
  unfold cagg
  go_enter Tryz.func137, Tryz.ntmps137
  go_wp2
  all_goals
    go_ret
    exact ⟨ret_bool (by simp [castB, *]), (Below.refl _ _).alloc (Nat.le_refl _) _⟩

set_option maxRecDepth 100000 in
set_option maxHeartbeats 1600000 in
theorem whenFits_any {c : CardL} {v : Value} {w : World} (h : CardIs w v c) (hlen : c.terms.length ≤ 9223372036854775807) :
    Calls Tryz.prog 136 #[v] w (RetB w (whenB c)) := by
  obtain ⟨xa, xn, xc, rfl, ht⟩ := h
  have hn : xn = c.terms.length := by
    rcases ht with ⟨_, _, h1, h2⟩ | ⟨_, _, _, h1, _⟩
    · injection h1 with _ h1 _; rw [h2, h1]; rfl
    · injection h1
  subst hn
  have HA := Lib.hid (show CardIs (w.alloc (.cells #[.int .i64 c.kind, .int .i64 c.cost, .int .i64 c.power, .int .i64 c.tough, .int .i64 c.keys, .int .i64 c.whn, .slice xa c.terms.length xc] 45)) (cagg c (.slice xa c.terms.length xc)) c from ⟨_, _, _, rfl, ht.later ((Below.refl _ _).alloc (Nat.le_refl _) _)⟩)
  clear ht
  by_cases h0 : c.whn = 0
  · have hb : (c.whn == 0) = true := by simp [h0]
    have HW : Hid (whenB c = decide (c.terms.length = 0)) := Lib.hid (by simp [whenB, h0])
    rw [HW.out]
    clear h0
    unfold cagg
    go_enter Tryz.func136, Tryz.ntmps136
    go_wp2
    go_ret
    exact ⟨ret_bool (len_zero _), (Below.refl _ _).alloc (Nat.le_refl _) _⟩
  · have hb : (c.whn == 0) = false := by simp [h0]
    by_cases h1 : c.whn = 1
    · have hb1 : (c.whn == 1) = true := by simp [h1]
      have HW : Hid (whenB c = decide (0 < c.terms.length)) := Lib.hid (by simp [whenB, h1])
      rw [HW.out]
      clear h0 h1
      unfold cagg
      go_enter Tryz.func136, Tryz.ntmps136
      go_wp2
      go_ret
      exact ⟨ret_bool rfl, (Below.refl _ _).alloc (Nat.le_refl _) _⟩
    · have hb1 : (c.whn == 1) = false := by simp [h1]
      have HW : Hid (whenB c = (decide (0 < c.terms.length) && decide (aimedAt c.terms = 0))) := Lib.hid (by simp [whenB, h0, h1])
      rw [HW.out]
      clear h0 h1
      by_cases hp : 0 < c.terms.length
      · have hd : decide ((0 : Int) < c.terms.length) = true := by simp; omega
        have HP := Lib.hid (show decide (0 < c.terms.length) = true by simpa using hp)
        unfold cagg
        go_enter Tryz.func136, Tryz.ntmps136
        go_wp2_with fail
        refine (aimed_any HA.out hlen).mono ?_
        rintro e w2 ⟨rfl, hb2⟩
        go_wp2
        go_ret
        exact ⟨ret_bool (by rw [HP.out, Bool.true_and]; rfl), (below_new w _).trans (hb2.mono (by simp))⟩
      · have hd : decide ((0 : Int) < c.terms.length) = false := decide_eq_false (by omega)
        have HP := Lib.hid (show decide (0 < c.terms.length) = false by simpa using hp)
        unfold cagg
        go_enter Tryz.func136, Tryz.ntmps136
        go_wp2_with fail
        go_ret
        exact ⟨ret_bool (by rw [HP.out]; simp), (Below.refl _ _).alloc (Nat.le_refl _) _⟩
end Go.Proofs.YtgjojjhppgjkkaaGreat.Crd
namespace Go.Proofs.YtgjojjhppgjkkaaGreat.Crd
open Go.RowKit

theorem CardIs.later {w w' : World} {v : Value} {c : CardL} (h : CardIs w v c) (hb : Below w.heap.size w w') : CardIs w' v c := by
  obtain ⟨xa, xn, xc, rfl, ht⟩ := h
  exact ⟨xa, xn, xc, rfl, ht.later hb⟩
theorem CardIs.len {w : World} {c : CardL} {xa : Option Addr} {xn xc : Nat} (h : TermsIs w (.slice xa xn xc) c.terms) : xn = c.terms.length := by
  rcases h with ⟨_, _, h1, h2⟩ | ⟨_, _, _, h1, _⟩
  · injection h1 with _ h1 _; rw [h2, h1]; rfl
  · injection h1

def sixB (c : CardL) : Bool := c.kind == 1 && (c.cost == 0 && (c.power == 0 && (c.tough == 0 && (c.keys == 0 && c.whn == 0))))
theorem eq_six (c : CardL) (W : World) : (binOp .eql 178 (nums6 c) (.agg #[.int .i64 1, .int .i64 0, .int .i64 0, .int .i64 0, .int .i64 0, .int .i64 0])).run Tryz.prog W = .ok (.bool (sixB c)) W := by
  unfold nums6
  rw [run_eql_struct, equal6 9998]
  rfl
theorem land_six (c : CardL) (h : c.kind = 1) : landB c = (sixB c && decide (c.terms.length = 0)) := by
  simp only [landB, sixB, h, beq_self_eq_true, Bool.true_and, Bool.and_assoc]
  rfl

set_option maxRecDepth 100000 in
set_option maxHeartbeats 1600000 in
theorem kindFits_any {c : CardL} {v : Value} {w : World} (h : CardIs w v c) (hlen : c.terms.length ≤ 9223372036854775807) :
    Calls Tryz.prog 128 #[v] w (RetB w (kindB c)) := by
  obtain ⟨xa, xn, xc, rfl, ht⟩ := h
  obtain rfl := CardIs.len ht
  have HA := Lib.hid (show CardIs (w.alloc (.cells #[.int .i64 c.kind, .int .i64 c.cost, .int .i64 c.power, .int .i64 c.tough, .int .i64 c.keys, .int .i64 c.whn, .slice xa c.terms.length xc] 45)) (cagg c (.slice xa c.terms.length xc)) c from ⟨_, _, _, rfl, ht.later (below_new _ _)⟩)
  clear ht
  by_cases h1 : c.kind = 1
  · have hb : (c.kind == 1) = true := by simp [h1]
    have HW : Hid (kindB c = (sixB c && decide (c.terms.length = 0))) := Lib.hid (by rw [← land_six c h1]; simp [kindB, h1])
    rw [HW.out]
    clear h1
    have he := eq_six c
    have hg := eqg6
    unfold nums6 at he
    unfold cagg
    cases hs : sixB c
    · rw [hs] at he
      have HS := Lib.hid hs
      clear hs
      go_enter Tryz.func128, Tryz.ntmps128
      go_wp2_with fail
      refine (numbers_any c _ _ _ _).mono ?_
      rintro e w2 ⟨rfl, hb2⟩
      unfold nums6
      go_wp2
      go_ret
      exact ⟨ret_bool rfl, (below_new w _).trans (hb2.mono (by simp))⟩
    · rw [hs] at he
      have HS := Lib.hid hs
      clear hs
      go_enter Tryz.func128, Tryz.ntmps128
      go_wp2_with fail
      refine (numbers_any c _ _ _ _).mono ?_
      rintro e w2 ⟨rfl, hb2⟩
      have c6 : w2.cell? ⟨w.heap.size, 6, none⟩ = some (.slice xa c.terms.length xc) := ((bcell hb2).1 _ 6 (show _ < _ by simp)).trans (by simp [go_sem])
      unfold nums6
      go_wp2
      go_ret
      exact ⟨ret_bool (by rw [Bool.true_and]; exact len_zero _), (below_new w _).trans (hb2.mono (by simp))⟩
  have b1 : (c.kind == 1) = false := by simp [h1]
  by_cases h2 : c.kind = 2
  · have hb : (c.kind == 2) = true := by simp [h2]
    have HW : Hid (kindB c = (decide (1 ≤ c.tough) && whenB c)) := Lib.hid (by simp [kindB, h2])
    rw [HW.out]
    clear h1 h2
    by_cases hp : 1 ≤ c.tough
    · have hd : decide (1 ≤ c.tough) = true := decide_eq_true hp
      have HP := Lib.hid hd
      unfold cagg
      go_enter Tryz.func128, Tryz.ntmps128
      go_wp2_with fail
      refine (whenFits_any HA.out hlen).mono ?_
      rintro e w2 ⟨rfl, hb2⟩
      go_wp2
      go_ret
      exact ⟨ret_bool (by rw [HP.out, Bool.true_and]), (below_new w _).trans (hb2.mono (by simp))⟩
    · have hd : decide (1 ≤ c.tough) = false := decide_eq_false hp
      have HP := Lib.hid hd
      unfold cagg
      go_enter Tryz.func128, Tryz.ntmps128
      go_wp2_with fail
      go_ret
      exact ⟨ret_bool rfl, below_new w _⟩
  have b2 : (c.kind == 2) = false := by simp [h2]
  by_cases h3 : c.kind = 3
  · have hb : (c.kind == 3) = true := by simp [h3]
    have HW : Hid (kindB c = castB c) := Lib.hid (by simp [kindB, h3])
    rw [HW.out]
    clear h1 h2 h3
    unfold cagg
    go_enter Tryz.func128, Tryz.ntmps128
    go_wp2_with fail
    refine (castFits_any c _ _ _).mono ?_
    rintro e w2 ⟨rfl, hb2⟩
    go_wp2
    go_ret
    exact ⟨ret_bool rfl, (below_new w _).trans (hb2.mono (by simp))⟩
  have b3 : (c.kind == 3) = false := by simp [h3]
  by_cases h4 : c.kind = 4
  · have hb : (c.kind == 4) = true := by simp [h4]
    have HW : Hid (kindB c = (castB c && (decide (c.cost = 0) && decide (aimedAt c.terms = 0)))) := Lib.hid (by simp [kindB, h4])
    rw [HW.out]
    clear h1 h2 h3 h4
    unfold cagg
    cases hs : castB c
    · have HS := Lib.hid hs
      go_enter Tryz.func128, Tryz.ntmps128
      go_wp2_with fail
      refine (castFits_any c _ _ _).mono ?_
      rw [HS.out]
      rintro e w2 ⟨rfl, hb2⟩
      go_wp2
      go_ret
      exact ⟨ret_bool rfl, (below_new w _).trans (hb2.mono (by simp))⟩
    · have HS := Lib.hid hs
      clear hs
      by_cases h0 : c.cost = 0
      · have hc : (c.cost == 0) = true := by simp [h0]
        have H0 := Lib.hid (decide_eq_true h0)
        clear h0
        go_enter Tryz.func128, Tryz.ntmps128
        go_wp2_with fail
        refine (castFits_any c _ _ _).mono ?_
        rw [HS.out]
        rintro e w2 ⟨rfl, hb2⟩
        have HB2 := Lib.hid hb2
        have hcl := fun j h => (bcell hb2).1 w.heap.size j h
        have k0 : w2.cell? ⟨w.heap.size, 0, none⟩ = some (.int .i64 c.kind) := (hcl 0 (show _ < _ by simp)).trans (by simp [go_sem])
        have k1 : w2.cell? ⟨w.heap.size, 1, none⟩ = some (.int .i64 c.cost) := (hcl 1 (show _ < _ by simp)).trans (by simp [go_sem])
        have k2 : w2.cell? ⟨w.heap.size, 2, none⟩ = some (.int .i64 c.power) := (hcl 2 (show _ < _ by simp)).trans (by simp [go_sem])
        have k3 : w2.cell? ⟨w.heap.size, 3, none⟩ = some (.int .i64 c.tough) := (hcl 3 (show _ < _ by simp)).trans (by simp [go_sem])
        have k4 : w2.cell? ⟨w.heap.size, 4, none⟩ = some (.int .i64 c.keys) := (hcl 4 (show _ < _ by simp)).trans (by simp [go_sem])
        have k5 : w2.cell? ⟨w.heap.size, 5, none⟩ = some (.int .i64 c.whn) := (hcl 5 (show _ < _ by simp)).trans (by simp [go_sem])
        have k6 : w2.cell? ⟨w.heap.size, 6, none⟩ = some (.slice xa c.terms.length xc) := (hcl 6 (show _ < _ by simp)).trans (by simp [go_sem])
        clear hcl hb2
        go_wp2_with fail
        refine (aimed_any (HA.out.later HB2.out) hlen).mono ?_
        rintro e w3 ⟨rfl, hb3⟩
        go_wp2
        go_ret
        exact ⟨ret_bool (by rw [H0.out]; rfl), ((below_new w _).trans (HB2.out.mono (by simp))).trans (hb3.mono (by have := HB2.out.size; simp at this; omega))⟩
      · have hc : (c.cost == 0) = false := by simp [h0]
        have H0 := Lib.hid (decide_eq_false h0)
        clear h0
        go_enter Tryz.func128, Tryz.ntmps128
        go_wp2_with fail
        refine (castFits_any c _ _ _).mono ?_
        rw [HS.out]
        rintro e w2 ⟨rfl, hb2⟩
        have HB2 := Lib.hid hb2
        have k1 : w2.cell? ⟨w.heap.size, 1, none⟩ = some (.int .i64 c.cost) := ((bcell hb2).1 w.heap.size 1 (show _ < _ by simp)).trans (by simp [go_sem])
        clear hb2
        go_wp2
        go_ret
        exact ⟨ret_bool (by rw [H0.out]; rfl), (below_new w _).trans (HB2.out.mono (by simp))⟩
  have b4 : (c.kind == 4) = false := by simp [h4]
  have HW : Hid (kindB c = false) := Lib.hid (by simp [kindB, h1, h2, h3, h4])
  rw [HW.out]
  clear h1 h2 h3 h4
  unfold cagg
  go_enter Tryz.func128, Tryz.ntmps128
  go_wp2_with fail
  go_ret
  exact ⟨ret_bool rfl, below_new w _⟩

theorem card_cells {c : CardL} {xa : Option Addr} {xn xc : Nat} {w w2 : World} {T : TypeId} (hb : Below (w.alloc (.cells #[.int .i64 c.kind, .int .i64 c.cost, .int .i64 c.power, .int .i64 c.tough, .int .i64 c.keys, .int .i64 c.whn, .slice xa xn xc] T)).heap.size (w.alloc (.cells #[.int .i64 c.kind, .int .i64 c.cost, .int .i64 c.power, .int .i64 c.tough, .int .i64 c.keys, .int .i64 c.whn, .slice xa xn xc] T)) w2) :
    w2.cell? ⟨w.heap.size, 0, none⟩ = some (.int .i64 c.kind) ∧ w2.cell? ⟨w.heap.size, 1, none⟩ = some (.int .i64 c.cost) ∧ w2.cell? ⟨w.heap.size, 2, none⟩ = some (.int .i64 c.power) ∧ w2.cell? ⟨w.heap.size, 3, none⟩ = some (.int .i64 c.tough) ∧
    w2.cell? ⟨w.heap.size, 4, none⟩ = some (.int .i64 c.keys) ∧ w2.cell? ⟨w.heap.size, 5, none⟩ = some (.int .i64 c.whn) ∧ w2.cell? ⟨w.heap.size, 6, none⟩ = some (.slice xa xn xc) := by
  have hcl := fun j h => (bcell hb).1 w.heap.size j h
  exact ⟨(hcl 0 (show _ < _ by simp)).trans (by simp [go_sem]), (hcl 1 (show _ < _ by simp)).trans (by simp [go_sem]), (hcl 2 (show _ < _ by simp)).trans (by simp [go_sem]), (hcl 3 (show _ < _ by simp)).trans (by simp [go_sem]),
    (hcl 4 (show _ < _ by simp)).trans (by simp [go_sem]), (hcl 5 (show _ < _ by simp)).trans (by simp [go_sem]), (hcl 6 (show _ < _ by simp)).trans (by simp [go_sem])⟩

set_option maxRecDepth 100000 in
set_option maxHeartbeats 1600000 in
theorem check_any {c : CardL} {v : Value} {w : World} (h : CardIs w v c) (hlen : c.terms.length ≤ 9223372036854775807) :
    Calls Tryz.prog 106 #[v] w fun e w' => e = .returned (.int .i64 (cardE (mayB c))) ∧ Below w.heap.size w w' := by
  obtain ⟨xa, xn, xc, rfl, ht⟩ := h
  have HA := Lib.hid (show CardIs (w.alloc (.cells #[.int .i64 c.kind, .int .i64 c.cost, .int .i64 c.power, .int .i64 c.tough, .int .i64 c.keys, .int .i64 c.whn, .slice xa xn xc] 45)) (cagg c (.slice xa xn xc)) c from ⟨_, _, _, rfl, ht.later (below_new _ _)⟩)
  have HT := Lib.hid (ht.later (below_new w (.cells #[.int .i64 c.kind, .int .i64 c.cost, .int .i64 c.power, .int .i64 c.tough, .int .i64 c.keys, .int .i64 c.whn, .slice xa xn xc] 45)))
  clear ht
  cases h1 : numsB c
  · have HM := Lib.hid (show mayB c = false by simp [mayB, h1])
    have H1 := Lib.hid h1
    rw [HM.out]
    clear h1
    unfold cagg
    go_enter Tryz.func106, Tryz.ntmps106
    go_wp2_with fail
    refine (numbersFit_any c _ _ _ _).mono ?_
    rw [H1.out]
    rintro e w2 ⟨rfl, hb2⟩
    go_wp2
    go_ret
    exact ⟨rfl, (below_new w _).trans (hb2.mono (by simp))⟩
  · have H1 := Lib.hid h1
    cases h2 : termsB c.terms
    · have HM := Lib.hid (show mayB c = false by simp [mayB, h1, h2])
      have H2 := Lib.hid h2
      rw [HM.out]
      clear h1 h2
      unfold cagg
      go_enter Tryz.func106, Tryz.ntmps106
      go_wp2_with fail
      refine (numbersFit_any c _ _ _ _).mono ?_
      rw [H1.out]
      rintro e w2 ⟨rfl, hb2⟩
      have HB2 := Lib.hid hb2
      obtain ⟨k0, k1, k2, k3, k4, k5, k6⟩ := card_cells hb2
      clear hb2
      go_wp2_with fail
      refine (termsFit_any (HT.out.later HB2.out) hlen).mono ?_
      rw [H2.out]
      rintro e w3 ⟨rfl, hb3⟩
      go_wp2
      go_ret
      exact ⟨rfl, ((below_new w _).trans (HB2.out.mono (by simp))).trans (hb3.mono (by have := HB2.out.size; simp at this; omega))⟩
    · have H2 := Lib.hid h2
      have HM := Lib.hid (show mayB c = kindB c by simp [mayB, h1, h2])
      rw [HM.out]
      clear h1 h2
      cases h3 : kindB c
      all_goals
        have H3 := Lib.hid h3
        clear h3
        unfold cagg
        go_enter Tryz.func106, Tryz.ntmps106
        go_wp2_with fail
        refine (numbersFit_any c _ _ _ _).mono ?_
        rw [H1.out]
        rintro e w2 ⟨rfl, hb2⟩
        have HB2 := Lib.hid hb2
        obtain ⟨k0, k1, k2, k3, k4, k5, k6⟩ := card_cells hb2
        clear hb2
        go_wp2_with fail
        refine (termsFit_any (HT.out.later HB2.out) hlen).mono ?_
        rw [H2.out]
        rintro e w3 ⟨rfl, hb3⟩
        have HB3 := Lib.hid (HB2.out.trans (hb3.mono HB2.out.size))
        obtain ⟨k0, k1, k2, k3, k4, k5, k6⟩ := card_cells HB3.out
        clear hb3
        go_wp2_with fail
        refine (kindFits_any (HA.out.later HB3.out) hlen).mono ?_
        rw [H3.out]
        rintro e w4 ⟨rfl, hb4⟩
        go_wp2
        go_ret
        exact ⟨rfl, ((below_new w _).trans (HB3.out.mono (by simp))).trans (hb4.mono (by have := HB3.out.size; simp at this; omega))⟩
end Go.Proofs.YtgjojjhppgjkkaaGreat.Crd
