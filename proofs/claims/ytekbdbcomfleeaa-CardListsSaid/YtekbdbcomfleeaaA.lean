/- Plain facts on numbers, bytes and lists that the proofs of layer 1 (octet) use: no program is named here. Conditions: those of each lemma. The contracts of putNum and nextNum (layer 1, octet): what each answers, for widths 1 to 4, in any world; only new memory is made. The contracts of none and Put of a codec of numbers (layer 1, octet), told of whatever function is in it. The contract of Next of a codec of numbers (layer 1, octet), told of whatever functions are in it; strings of at most maxLen bytes. -/
import Derived.WalkKit
import Derived.WalkSpells
import Derived.Lib.Hide
import Derived.Test.YtekbdbcomfleeaaRows
import Derived.WalkLawsBesides
namespace Go.Proofs.Ytekbdbcomfleeaa
open Go.RowKit

def byteAt (s : ByteArray) (j : Nat) : Int := ((s.data[j]?.getD 0).toNat : Int)

/-- The number of the first k bytes at place a, the lowest first. -/
def readN (s : ByteArray) (a : Nat) : Nat → Int
  | 0 => 0
  | k + 1 => readN s a k + byteAt s (a + k) * 256 ^ k

/-- The k lowest bytes of a number, the lowest first. -/
def digits (x : Int) : Nat → List Int
  | 0 => []
  | k + 1 => digits x k ++ [x / 256 ^ k % 256]

def numStr (n : Nat) (x : Int) : ByteArray := strOfNums (digits x n)

def powN (n : Nat) : Int := 256 ^ n

def fitsN (n : Nat) (x : Int) : Bool := decide (0 ≤ x) && decide (x < powN n)

theorem byteAt_bd (s : ByteArray) (j : Nat) : 0 ≤ byteAt s j ∧ byteAt s j < 256 := by
  unfold byteAt
  have h := (s.data[j]?.getD 0).toNat_lt
  omega

theorem byteAt_get (s : ByteArray) (j : Nat) (h : j < s.size) : ((s[j]'h).toNat : Int) = byteAt s j := by
  unfold byteAt
  have : s.data[j]? = some (s[j]'h) := by
    rw [Array.getElem?_eq_getElem (by simpa using h)]; rfl
  rw [this]; rfl

theorem powN_pos (n : Nat) : 0 < powN n := Int.pow_pos (by decide)
theorem powN_succ (n : Nat) : powN (n + 1) = powN n * 256 := Int.pow_succ _ _
theorem powN_le4 {n : Nat} (h : n ≤ 4) : powN n ≤ 4294967296 := by
  rcases (by omega : n = 0 ∨ n = 1 ∨ n = 2 ∨ n = 3 ∨ n = 4) with rfl | rfl | rfl | rfl | rfl <;> decide
theorem two_pow8 (k : Nat) : (2 : Int) ^ (8 * k) = powN k := by
  unfold powN; rw [Int.pow_mul]; rfl

theorem readN_bd (s : ByteArray) (a k : Nat) : 0 ≤ readN s a k ∧ readN s a k < powN k := by
  induction k with
  | zero => simp [readN, powN]
  | succ k ih =>
    have hb := byteAt_bd s (a + k)
    have hp := powN_pos k
    rw [powN_succ]
    show 0 ≤ readN s a k + byteAt s (a + k) * powN k ∧ _
    have h1 : 0 ≤ byteAt s (a + k) * powN k := Int.mul_nonneg hb.1 (by omega)
    have h2 : byteAt s (a + k) * powN k ≤ 255 * powN k := Int.mul_le_mul_of_nonneg_right (by omega) (by omega)
    constructor
    · omega
    · show readN s a k + byteAt s (a + k) * powN k < _
      omega

theorem bits_or_i64_nat (a b : Nat) (ha : a < 9223372036854775808) (hb : b < 9223372036854775808) : bits .or .i64 (a : Int) (b : Int) = ((a ||| b : Nat) : Int) := by
  have hx : a ||| b < 2 ^ 63 := Nat.or_lt_two_pow (by omega) (by omega)
  have h1 : (BitVec.ofInt 64 (a : Int)).toNat = a := by
    rw [BitVec.ofInt_natCast, BitVec.toNat_ofNat]; exact Nat.mod_eq_of_lt (by omega)
  have h2 : (BitVec.ofInt 64 (b : Int)).toNat = b := by
    rw [BitVec.ofInt_natCast, BitVec.toNat_ofNat]; exact Nat.mod_eq_of_lt (by omega)
  show IntKind.i64.wrap ((BitVec.ofInt 64 (a : Int) ||| BitVec.ofInt 64 (b : Int)).toNat : Int) = _
  rw [BitVec.toNat_or, h1, h2, IntKind.wrap_i64]
  omega

theorem or_join (x b : Int) (k : Nat) (hk : k < 4) (hx0 : 0 ≤ x) (hx : x < powN k) (hb0 : 0 ≤ b) (hb : b < 256) : bits .or .i64 x (b * powN k) = x + b * powN k := by
  obtain ⟨m, rfl⟩ := Int.eq_ofNat_of_zero_le hx0
  obtain ⟨c, rfl⟩ := Int.eq_ofNat_of_zero_le hb0
  have hp : powN k = ((2 ^ (8 * k) : Nat) : Int) := by rw [← two_pow8]; simp
  rw [hp] at hx ⊢
  have hm : m < 2 ^ (8 * k) := by exact_mod_cast hx
  have hc : c < 256 := by omega
  have hle : 2 ^ (8 * k) ≤ 16777216 := by
    rcases (by omega : k = 0 ∨ k = 1 ∨ k = 2 ∨ k = 3) with rfl | rfl | rfl | rfl <;> decide
  have hcp : c * 2 ^ (8 * k) ≤ 255 * 16777216 := Nat.mul_le_mul (by omega) hle
  have e : (c : Int) * ((2 ^ (8 * k) : Nat) : Int) = ((c * 2 ^ (8 * k) : Nat) : Int) := by simp
  rw [e, bits_or_i64_nat _ _ (by omega) (by omega)]
  have : m ||| c * 2 ^ (8 * k) = m + c * 2 ^ (8 * k) := by
    rw [Nat.or_comm, Nat.mul_comm, ← Nat.two_pow_add_eq_or_of_lt hm]; omega
  rw [this]; simp

theorem or_walk (s : ByteArray) (a k : Nat) (hk : k < 4) (h : a + k < s.size) :
    bits .or .i64 (readN s a k) (wrap64 (wrap64 ((s[a + k]'h).toNat : Int) * 2 ^ (8 * k))) = readN s a (k + 1) := by
  have hb := byteAt_bd s (a + k)
  have hr := readN_bd s a k
  have hp : powN k ≤ 16777216 := by
    rcases (by omega : k = 0 ∨ k = 1 ∨ k = 2 ∨ k = 3) with rfl | rfl | rfl | rfl <;> decide
  have h1 : 0 ≤ byteAt s (a + k) * powN k := Int.mul_nonneg hb.1 (by have := powN_pos k; omega)
  have h2 : byteAt s (a + k) * powN k ≤ 255 * 16777216 := Int.mul_le_mul (by omega) hp (by have := powN_pos k; omega) (by omega)
  rw [byteAt_get s _ h, IntWalk.wrap64_in (byteAt s (a + k)) (by omega), two_pow8, IntWalk.wrap64_in _ (by omega), or_join _ _ _ hk hr.1 hr.2 hb.1 hb.2]
  rfl

theorem digits_length (x : Int) (n : Nat) : (digits x n).length = n := by
  induction n with
  | zero => rfl
  | succ n ih => simp [digits, ih]

theorem digits_get (x : Int) (n j : Nat) (h : j < n) : (digits x n).getD j 0 = x / 256 ^ j % 256 := by
  induction n with
  | zero => omega
  | succ n ih =>
    by_cases e : j = n
    · subst e
      simp [digits, List.getD, digits_length]
    · have : j < n := by omega
      have hl : j < (digits x n).length := by rw [digits_length]; exact this
      have := ih this
      simp only [digits, List.getD, List.getElem?_append_left hl] at this ⊢
      exact this

/-- A row of n bytes of which the k lowest are written. -/
def bufv (x : Int) (n k : Nat) : Array Value := ((List.range n).map fun j => Value.int .u8 (if j < k then x / 256 ^ j % 256 else 0)).toArray

theorem bufv_size (x : Int) (n k : Nat) : (bufv x n k).size = n := by simp [bufv]
theorem bufv_get (x : Int) (n k j : Nat) (h : j < n) : (bufv x n k)[j]? = some (.int .u8 (if j < k then x / 256 ^ j % 256 else 0)) := by
  simp [bufv, h]
theorem bufv_zero (x : Int) (n : Nat) : madeCells #[.int .u8 0] n = bufv x n 0 := by
  apply Array.toList_inj.1
  rw [toList_madeCells_one]
  apply List.ext_getElem?
  intro j
  by_cases h : j < n <;> simp [bufv, h]
theorem bufv_set (x : Int) (n k : Nat) (h : k < n) : (bufv x n k).setIfInBounds k (.int .u8 (x / 256 ^ k % 256)) = bufv x n (k + 1) := by
  apply Array.ext_getElem?
  intro j
  by_cases hj : j < n
  · rw [bufv_get _ _ _ _ hj, Array.getElem?_setIfInBounds]
    by_cases e : k = j
    · subst e; simp [bufv_size, h]
    · rw [if_neg e, bufv_get _ _ _ _ hj]
      have : (j < k + 1) ↔ (j < k) := by omega
      simp [this]
  · rw [Array.getElem?_eq_none (by simp [bufv_size]; omega), Array.getElem?_eq_none (by simp [bufv_size]; omega)]

end Go.Proofs.Ytekbdbcomfleeaa
namespace Go.Proofs.Ytekbdbcomfleeaa
open Go.RowKit

def nextN (n : Nat) (s : ByteArray) (a : Nat) : Int × Int × Int := if s.size < a + n then (0, a, 3) else (readN s a n, a + n, 0)
def putN (n : Nat) (x : Int) : ByteArray × Int := if fitsN n x then (numStr n x, 0) else (⟨#[]⟩, 2)
def ret3 (r : Int × Int × Int) : Ending := .returned (.tuple #[.int .i64 r.1, .int .i64 r.2.1, .int .i64 r.2.2])
def ret2 (r : ByteArray × Int) : Ending := .returned (.tuple #[.string r.1, .int .i64 r.2])

set_option maxHeartbeats 400000 in
theorem nextNum_any (width : Nat) (s : ByteArray) (a : Nat) (w : World) (h1 : 1 ≤ width) (h4 : width ≤ 4) (ha : a ≤ s.size) (hs : s.size ≤ maxLen) :
    Calls Try.prog 93 #[.int .i64 width, .string s, .int .i64 a] w fun e w' => e = ret3 (nextN width s a) ∧ w = w' := by
  unfold maxLen at hs
  by_cases hsh : (s.size : Int) - a < width
  · have hn : nextN width s a = (0, (a : Int), 3) := by unfold nextN; rw [if_pos (by omega)]
    rw [hn]
    go_enter Try.func93, Try.ntmps93
    go_wp2
    go_ret3
    exact ⟨rfl, rfl⟩
  · have hn : nextN width s a = (readN s a width, (a : Int) + width, 0) := by unfold nextN; rw [if_neg (by omega)]
    rw [hn]
    clear hn
    go_enter Try.func93, Try.ntmps93
    go_wp2
    go_loop [9, 19] (fun x i => ∃ k : Nat, k ≤ width ∧ i = .int .i64 k ∧ x = .int .i64 (readN s a k)) (fun _ i => width - (intOf i).toNat)
    case atStart => exact ⟨0, Nat.zero_le _, rfl, rfl⟩
    case round =>
      obtain ⟨k, hk, rfl, rfl⟩ := hrel
      by_cases hlt : k < width
      · have HS := Lib.hid (or_walk s a k (by omega) (by omega))
        go_wp2
        go_round
        case rel => exact ⟨k + 1, by omega, by go_num, by rw [HS.out]⟩
        case measure => simp [intOf]; omega
      · obtain rfl : k = width := by omega
        go_wp2
        go_ret3
        exact ⟨rfl, rfl⟩

theorem info5 : (Try.prog.info? 5).map (fun i => (i.zero, i.size, i.bytes)) = some (some (.int .u8 0), 1, 1) := by kernel_rfl

set_option maxHeartbeats 400000 in
theorem putNum_yes (width : Nat) (x : Int) (w : World) (h1 : 1 ≤ width) (h4 : width ≤ 4) (hx0 : 0 ≤ x) (hx : x < powN width) :
    Calls Try.prog 91 #[.int .i64 width, .int .i64 x] w fun e w' => e = ret2 (putN width x) ∧ Below w.heap.size w w' := by
  obtain ⟨i0, hi, hz0, hz1, hz2⟩ := info_parts info5
  have hp := powN_le4 h4
  have hmk : ∀ u : World, (Instr.makeSlice 96 (.int .i64 (width : Int)) (.int .i64 (width : Int))).run Try.prog u =
      .ok (.slice (some ⟨u.heap.size, 0, none⟩) width width) (u.alloc (.cells (madeCells #[.int .u8 0] width) 5)) := fun u => by
    have h := run_make (P := Try.prog) u 96 5 i0 (.int .u8 0) Try.underlying96 hi hz0 .i64 .i64 (width : Int) (width : Int) (by omega) (Int.le_refl _) (by rw [hz2]; omega) (by omega)
    simpa [hz1, Value.cells] using h
  clear hi hz0 hz1 hz2
  have hpw : wrap64 (2 ^ (8 * width)) = powN width := by rw [two_pow8, IntWalk.wrap64_in _ (by have := powN_pos width; omega)]
  have hd0 : decide (x < 0) = false := by simp; omega
  go_enter Try.func91, Try.ntmps91
  go_wp2
  go_loopw [20] (fun i wr => ∃ k : Nat, k ≤ width ∧ i = .int .i64 k ∧ wr = w.alloc (.cells (bufv x width k) 5)) (fun i _ => width - (intOf i).toNat)
  case atStart => exact ⟨0, Nat.zero_le _, rfl, by rw [bufv_zero]⟩
  case round =>
    obtain ⟨k, hk, rfl, rfl⟩ := hrel
    by_cases hlt : k < width
    · have hg := bufv_get x width k k hlt
      rw [if_neg (by omega)] at hg
      have HS := Lib.hid (bufv_set x width k hlt)
      have HP := Lib.hid (two_pow8 k)
      go_wp2
      go_roundw
      case rel => exact ⟨k + 1, by omega, by go_num, by rw [HP.out]; exact congrArg (fun c => w.alloc (.cells c 5)) HS.out⟩
      case measure => simp [intOf]; omega
    · obtain rfl : k = width := by omega
      have hcv : (convert 96 9 (.slice (some ⟨w.heap.size, 0, none⟩) k k)).run Try.prog (w.alloc (.cells (bufv x k k) 5)) = .ok (.string (numStr k x)) (w.alloc (.cells (bufv x k k) 5)) := by
        refine run_convert_bytes_arg _ 96 5 Try.underlying96 Try.underlying5 w.heap.size 0 k k (digits x k) (digits_length x k) (fun i hi => ?_) 9 Try.underlying9
        rw [Nat.zero_add, World.cell?_alloc_at _ _ _ _ rfl, bufv_get _ _ _ _ hi, if_pos hi, digits_get _ _ _ hi]
      go_wp2
      go_ret2
      refine ⟨?_, (Below.refl _ _).alloc (Nat.le_refl _) _⟩
      have hf : fitsN k x = true := by simp [fitsN, hx0, hx]
      simp [putN, hf, ret2]

set_option maxHeartbeats 400000 in
theorem putNum_no (width : Nat) (x : Int) (w : World) (h1 : 1 ≤ width) (h4 : width ≤ 4) (hx : x < 0 ∨ powN width ≤ x) :
    Calls Try.prog 91 #[.int .i64 width, .int .i64 x] w fun e w' => e = ret2 (putN width x) ∧ Below w.heap.size w w' := by
  have hp := powN_le4 h4
  have hf : fitsN width x = false := by unfold fitsN; rcases hx with h | h <;> simp <;> omega
  have hpw : wrap64 (2 ^ (8 * width)) = powN width := by rw [two_pow8, IntWalk.wrap64_in _ (by have := powN_pos width; omega)]
  rw [putN, hf]
  rcases hx with h | h
  · have hd0 : decide (x < 0) = true := by simpa using h
    go_enter Try.func91, Try.ntmps91
    go_wp2
    go_ret2
    exact ⟨rfl, Below.refl _ _⟩
  · have hd0 : decide (x < 0) = false := by have := powN_pos width; simp; omega
    have hd1 : decide (powN width ≤ x) = true := by simpa using h
    go_enter Try.func91, Try.ntmps91
    go_wp2
    go_ret2
    exact ⟨rfl, Below.refl _ _⟩

theorem putNum_any (width : Nat) (x : Int) (w : World) (h1 : 1 ≤ width) (h4 : width ≤ 4) :
    Calls Try.prog 91 #[.int .i64 width, .int .i64 x] w fun e w' => e = ret2 (putN width x) ∧ Below w.heap.size w w' := by
  by_cases h : 0 ≤ x ∧ x < powN width
  · exact putNum_yes width x w h1 h4 h.1 h.2
  · exact putNum_no width x w h1 h4 (by omega)
end Go.Proofs.Ytekbdbcomfleeaa
namespace Go.Proofs.Ytekbdbcomfleeaa
open Go.RowKit

def Enters (k : FuncId) : Prop := ∀ args u, (callFunc k args).run Try.prog u = .ok (.enter k args) u
theorem Enters.out {k : FuncId} (h : Enters k) : ∀ args u, (callFunc k args).run Try.prog u = .ok (.enter k args) u := h

theorem eg_func (t : TypeId) (x y : Operand) (fn : Fn) (fi ca : Array Value) (u : World) : (eqGuard .eql t x y (.func fn fi ca) .nilFunc).run Try.prog u = .ok () u := by rfl
theorem eg_nil (t : TypeId) (x y : Operand) (u : World) : (eqGuard .eql t x y .nilFunc .nilFunc).run Try.prog u = .ok () u := by rfl
theorem eq_func25 (fn : Fn) (fi ca : Array Value) (u : World) : (binOp .eql 109 (.func fn fi ca) .nilFunc).run Try.prog u = .ok (.bool false) u := by kernel_rfl
theorem eq_nil25 (u : World) : (binOp .eql 109 .nilFunc .nilFunc).run Try.prog u = .ok (.bool true) u := by kernel_rfl
theorem mk_func (fn : Fn) (first cap : Array Value) (w : World) : (Instr.makeFunc fn first cap).run Try.prog w = .ok (.func fn first cap) w := rfl

theorem bcell {W w1 : World} (hb : Below W.heap.size W w1) : (∀ b o, b < W.heap.size → w1.cell? ⟨b, o, none⟩ = W.cell? ⟨b, o, none⟩) ∧ (∀ b o, b < W.heap.size → w1.frozen? ⟨b, o, none⟩ = W.frozen? ⟨b, o, none⟩) :=
  ⟨fun b o h => hb.cell (p := ⟨b, o, none⟩) h, fun b o h => hb.frozen (p := ⟨b, o, none⟩) h⟩

set_option maxHeartbeats 400000 in
theorem none_func (fn : Fn) (fi ca : Array Value) (v1 : Value) (w : World) :
    Calls Try.prog 94 #[.agg #[.func fn fi ca, v1]] w fun e w' => e = .returned (.bool false) ∧ w.alloc (.cells #[.func fn fi ca, v1] 112) = w' := by
  have h1 := @eg_func
  have h2 := @eq_func25
  go_enter Try.func94, Try.ntmps94
  go_wp2
  go_ret
  exact ⟨rfl, rfl⟩

set_option maxHeartbeats 400000 in
theorem none_nil (v1 : Value) (w : World) :
    Calls Try.prog 94 #[.agg #[.nilFunc, v1]] w fun e w' => e = .returned (.bool true) ∧ w.alloc (.cells #[.nilFunc, v1] 112) = w' := by
  have h1 := @eg_nil
  have h2 := @eq_nil25
  go_enter Try.func94, Try.ntmps94
  go_wp2
  go_ret
  exact ⟨rfl, rfl⟩

theorem d34_idle (p q : Option Addr) (w : World) :
    CallsD Try.prog 98 #[.pointer p, .pointer q] .returning w fun e u' w' => e = .returned (.tuple #[]) ∧ u' = .returning ∧ w' = w := by
  refine callsD_of_wpS Try.func98 rfl fun c₀ cs hu => ?_
  apply wpS_seq
  apply wpS_region
  simp [wpOpsS, go_sem, recoverD, hu, Try.ntmps98, Exit.thenS]
  refine wpS_cond (t := false) (by simp [Act.eval, Array.replicate]) ?_
  simp only [Bool.false_eq_true, if_false]
  refine wpS_of_wp (wp_skip ?_)
  cases c₀
  simp_all [bodyPostS, results, Try.results98]

theorem isSome_setCell (w : World) (a b : Addr) (v : Value) : ((w.setCell a v).cell? b).isSome = (w.cell? b).isSome := by
  by_cases h : a = b
  · subst h
    simp only [World.setCell, World.cell?, Array.getElem?_modify, if_true]
    cases hb : w.heap[a.block]? with
    | none => rfl
    | some o =>
      cases o with
      | cells c t f =>
        simp only [Option.map_some]
        cases a.spot with
        | some _ => rfl
        | none =>
          by_cases ho : a.off < c.size <;> simp [ho]
      | _ => rfl
  · rw [World.cell?_setCell_other w a b v h]

def outS (s : ByteArray) (n : Int) : ByteArray × Int := if n = 0 then (s, 0) else (⟨#[]⟩, n)

set_option maxHeartbeats 400000 in
theorem put_any (k : Nat) (hk : Enters k) (first cap : Array Value) (v1 : Value) (x : Int) (s : ByteArray) (n : Int) (w : World)
    (hc : ∀ w1, Below w.heap.size w w1 → Calls Try.prog k (first.push (.int .i64 x) ++ cap) w1 fun e w2 => e = ret2 (s, n) ∧ Below w1.heap.size w1 w2) :
    Calls Try.prog 82 #[.agg #[.func (.func k) first cap, v1], .int .i64 x] w fun e w' => e = ret2 (outS s n) ∧ Below w.heap.size w w' := by
  have hmf := @mk_func
  have hkk := hk.out
  unfold ret2 at hc
  have HC := Lib.hid hc
  clear hc
  go_enter_defers Try.func82, Try.ntmps82
  go_wp2_with (go_at_call 94; refine (none_func _ _ _ _ _).mono ?_; rintro e w' ⟨rfl, rfl⟩)
  refine (HC.out _ (((((Below.refl _ _).alloc (Nat.le_refl _) _).alloc (by simp) _).alloc (by simp; omega) _).alloc (by simp; omega) _)).mono ?_
  rintro e w2 ⟨rfl, hb⟩
  have hcells := bcell hb
  have hz := hb.size
  simp at hz
  have hbase : Below w.heap.size w w2 := (((((Below.refl _ _).alloc (Nat.le_refl _) _).alloc (by simp) _).alloc (by simp; omega) _).alloc (by simp; omega) _).trans (hb.mono (by simp; omega))
  have HB := Lib.hid hbase
  have C1 : Hid (w2.cell? ⟨w.heap.size + 1, 0, none⟩ = some (.string { data := #[] })) := by
    refine Lib.hid ?_
    rw [hcells.1 _ _ (by simp)]; simp [go_sem]
  have C2 : Hid (w2.cell? ⟨w.heap.size + 1 + 1, 0, none⟩ = some (.int .i64 0)) := by
    refine Lib.hid ?_
    rw [hcells.1 _ _ (by simp)]; simp [go_sem]
  clear hbase hb
  by_cases h0 : n = 0
  · subst h0
    go_wp2
    refine leaves_cons (f := 98) (args := #[.pointer (some ⟨w.heap.size + 1, 0, none⟩), .pointer (some ⟨w.heap.size + 1 + 1, 0, none⟩)]) (by simp) (by simp [go_sem]) ?_
    refine (d34_idle _ _ _).mono ?_
    rintro e u' w'' ⟨rfl, rfl, rfl⟩
    simp [Leaves, settle, results, Try.results82, go_sem, C1.out, C2.out, World.cell?_setCell_other, isSome_setCell]
    refine ⟨by simp [ret2, outS], ?_⟩
    repeat (first | exact HB.out | refine Below.drew ?_ | refine Below.setCell ?_ (by dsimp only; omega) _)
  · have h0' : (n != 0) = true := by simpa using h0
    go_wp2
    go_region
    all_goals go_wp2
    all_goals refine leaves_cons (f := 98) (args := #[.pointer (some ⟨w.heap.size + 1, 0, none⟩), .pointer (some ⟨w.heap.size + 1 + 1, 0, none⟩)]) (by simp) (by simp [go_sem]) ?_
    all_goals refine (d34_idle _ _ _).mono ?_
    all_goals rintro e u' w'' ⟨rfl, rfl, rfl⟩
    all_goals simp [Leaves, settle, results, Try.results82, go_sem, C1.out, C2.out, World.cell?_setCell_other, isSome_setCell]
    all_goals refine ⟨by simp [ret2, outS, h0], ?_⟩
    all_goals repeat (first | exact HB.out | refine Below.drew ?_ | refine Below.setCell ?_ (by dsimp only; omega) _)

theorem d37_idle (p q r s u : Option Addr) (w : World) :
    CallsD Try.prog 95 #[.pointer p, .pointer q, .pointer r, .pointer s, .pointer u] .returning w fun e u' w' => e = .returned (.tuple #[]) ∧ u' = .returning ∧ w' = w := by
  refine callsD_of_wpS Try.func95 rfl fun c₀ cs hu => ?_
  apply wpS_seq
  apply wpS_region
  simp [wpOpsS, go_sem, recoverD, hu, Try.ntmps95, Exit.thenS]
  refine wpS_cond (t := false) (by simp [Act.eval, Array.replicate]) ?_
  simp only [Bool.false_eq_true, if_false]
  refine wpS_of_wp (wp_skip ?_)
  cases c₀
  simp_all [bodyPostS, results, Try.results95]

end Go.Proofs.Ytekbdbcomfleeaa
namespace Go.Proofs.Ytekbdbcomfleeaa
open Go.RowKit

theorem leave12 (tmps : Array Value) (b6 b7 b8 : Nat) (x m n : Int) (R : Ending → World → Prop) (W : World)
    (h6 : tmps[6]? = some (.pointer (some ⟨b6, 0, none⟩))) (h7 : tmps[7]? = some (.pointer (some ⟨b7, 0, none⟩))) (h8 : tmps[8]? = some (.pointer (some ⟨b8, 0, none⟩)))
    (c6 : W.cell? ⟨b6, 0, none⟩ = some (.int .i64 x)) (c7 : W.cell? ⟨b7, 0, none⟩ = some (.int .i64 m)) (c8 : W.cell? ⟨b8, 0, none⟩ = some (.int .i64 n))
    (hR : R (ret3 (x, m, n)) W) : Leaves Try.prog Try.f78 tmps R [] .returning W := by
  refine ⟨_, ?_, hR⟩
  simp [results, Try.results78, go_sem, h6, h7, h8, c6, c7, c8]

set_option maxHeartbeats 1600000 in
theorem next_any (k : Nat) (hk : Enters k) (first cap : Array Value) (v0 : Fn) (fi0 ca0 : Array Value) (s : ByteArray) (a : Nat) (x m n : Int) (w : World) (_ha : a ≤ s.size) (_hs : s.size ≤ maxLen)
    (hc : ∀ w1, Below w.heap.size w w1 → Calls Try.prog k (first ++ (#[.string s, .int .i64 a] ++ cap)) w1 fun e w2 => e = ret3 (x, m, n) ∧ Below w1.heap.size w1 w2) :
    Calls Try.prog 78 #[.agg #[.func v0 fi0 ca0, .func (.func k) first cap], .string s, .int .i64 a] w fun e w' => e = ret3 (if n = 0 then (x, m, 0) else (0, a, n)) ∧ Below w.heap.size w w' := by
  have hmf := @mk_func
  have hkk := hk.out
  unfold maxLen at _hs
  unfold ret3 at hc
  have HC := Lib.hid hc
  have hd : decide ((a : Int) < 0) = false := by simp
  clear hc
  go_enter_defers Try.func78, Try.ntmps78
  go_wp2_with (go_at_call 94; refine (none_func _ _ _ _ _).mono ?_; rintro e w' ⟨rfl, rfl⟩)
  refine (HC.out _ ((((((((Below.refl _ _).alloc (Nat.le_refl _) _).alloc (by simp) _).alloc (by simp; omega) _).alloc (by simp; omega) _).alloc (by simp; omega) _).alloc (by simp; omega) _).alloc (by simp; omega) _)).mono ?_
  rintro e w2 ⟨rfl, hb⟩
  have hcells := bcell hb
  have hz := hb.size
  simp at hz
  have hbase : Below w.heap.size w w2 := ((((((((Below.refl _ _).alloc (Nat.le_refl _) _).alloc (by simp) _).alloc (by simp; omega) _).alloc (by simp; omega) _).alloc (by simp; omega) _).alloc (by simp; omega) _).alloc (by simp; omega) _).trans (hb.mono (by simp; omega))
  have HB := Lib.hid hbase
  have C1 := Lib.hid (show w2.cell? ⟨w.heap.size + 1, 0, none⟩ = some (.int .i64 a) by rw [hcells.1 _ _ (by simp)]; simp [go_sem])
  have C2 := Lib.hid (show w2.cell? ⟨w.heap.size + 1 + 1, 0, none⟩ = some (.int .i64 0) by rw [hcells.1 _ _ (by simp)]; simp [go_sem])
  have C3 := Lib.hid (show w2.cell? ⟨w.heap.size + 1 + 1 + 1, 0, none⟩ = some (.int .i64 0) by rw [hcells.1 _ _ (by simp)]; simp [go_sem])
  have C4 := Lib.hid (show w2.cell? ⟨w.heap.size + 1 + 1 + 1 + 1, 0, none⟩ = some (.int .i64 0) by rw [hcells.1 _ _ (by simp)]; simp [go_sem])
  have C5 := Lib.hid (show w2.cell? ⟨w.heap.size + 1 + 1 + 1 + 1 + 1, 0, none⟩ = some (.int .i64 0) by rw [hcells.1 _ _ (by simp)]; simp [go_sem])
  clear hbase hb
  by_cases h0 : n = 0
  · subst h0
    go_wp2
    go_region
    all_goals go_wp2
    all_goals refine leaves_cons (f := 95) (args := #[.pointer (some ⟨w.heap.size + 1 + 1 + 1 + 1 + 1, 0, none⟩), .pointer (some ⟨w.heap.size + 1, 0, none⟩), .pointer (some ⟨w.heap.size + 1 + 1, 0, none⟩), .pointer (some ⟨w.heap.size + 1 + 1 + 1, 0, none⟩), .pointer (some ⟨w.heap.size + 1 + 1 + 1 + 1, 0, none⟩)]) (by simp) (by simp [go_sem]) ?_
    all_goals refine (d37_idle _ _ _ _ _ _).mono ?_
    all_goals rintro e u' w'' ⟨rfl, rfl, rfl⟩
    all_goals refine leave12 _ (w.heap.size + 1 + 1) (w.heap.size + 1 + 1 + 1) (w.heap.size + 1 + 1 + 1 + 1) x m 0 _ _ rfl rfl rfl ?_ ?_ ?_ ⟨by simp, ?_⟩
    all_goals first | (with_reducible refine Below.drew ?_; repeat (first | with_reducible exact HB.out | with_reducible refine Below.setCell ?_ (by dsimp only; omega) _)) | (simp [C2.out, C3.out, C4.out, World.cell?_setCell_other, isSome_setCell, go_sem]; done)
  · have h0' : (n != 0) = true := by simpa using h0
    go_wp2
    go_region
    all_goals go_wp2
    all_goals refine leaves_cons (f := 95) (args := #[.pointer (some ⟨w.heap.size + 1 + 1 + 1 + 1 + 1, 0, none⟩), .pointer (some ⟨w.heap.size + 1, 0, none⟩), .pointer (some ⟨w.heap.size + 1 + 1, 0, none⟩), .pointer (some ⟨w.heap.size + 1 + 1 + 1, 0, none⟩), .pointer (some ⟨w.heap.size + 1 + 1 + 1 + 1, 0, none⟩)]) (by simp) (by simp [go_sem]) ?_
    all_goals refine (d37_idle _ _ _ _ _ _).mono ?_
    all_goals rintro e u' w'' ⟨rfl, rfl, rfl⟩
    all_goals refine leave12 _ (w.heap.size + 1 + 1) (w.heap.size + 1 + 1 + 1) (w.heap.size + 1 + 1 + 1 + 1) 0 a n _ _ rfl rfl rfl ?_ ?_ ?_ ⟨by simp, ?_⟩
    all_goals first | (with_reducible refine Below.drew ?_; repeat (first | with_reducible exact HB.out | with_reducible refine Below.setCell ?_ (by dsimp only; omega) _)) | (simp [C2.out, C3.out, C4.out, World.cell?_setCell_other, isSome_setCell, go_sem]; done)

theorem door_ret {P : Program} {fn : Func} {R : Ending → World → Prop} {a : Act} {w : World} (h : Leaves P fn a.tmps R a.defers .returning w) : bodyPostD P fn R .ret a w := h

set_option maxHeartbeats 1600000 in
theorem next_bad (v0 : Fn) (fi0 ca0 : Array Value) (v1 : Value) (s : ByteArray) (a : Int) (w : World) (ha : a < 0 ∨ (s.size : Int) < a) (_hs : s.size ≤ maxLen) :
    Calls Try.prog 78 #[.agg #[.func v0 fi0 ca0, v1], .string s, .int .i64 a] w fun e w' => e = ret3 (0, a, 1) ∧ Below w.heap.size w w' := by
  have hmf := @mk_func
  unfold maxLen at _hs
  by_cases h0 : a < 0
  · have hd : decide (a < 0) = true := by simpa using h0
    go_enter_defers Try.func78, Try.ntmps78
    go_wp2_with (go_at_call 94; refine (none_func _ _ _ _ _).mono ?_; rintro e w' ⟨rfl, rfl⟩)
    go_region
    all_goals go_wp2
    all_goals refine door_ret ?_
    all_goals refine leave12 _ (w.heap.size + 1 + 1) (w.heap.size + 1 + 1 + 1) (w.heap.size + 1 + 1 + 1 + 1) 0 a 1 _ _ rfl rfl rfl ?_ ?_ ?_ ⟨rfl, ?_⟩
    all_goals first | (with_reducible refine Below.drew ?_; repeat (first | with_reducible exact Below.refl _ _ | with_reducible refine Below.alloc ?_ (by simp; try omega) _)) | (simp [go_sem]; done)
  · have hd : decide (a < 0) = false := by simpa using h0
    go_enter_defers Try.func78, Try.ntmps78
    go_wp2_with (go_at_call 94; refine (none_func _ _ _ _ _).mono ?_; rintro e w' ⟨rfl, rfl⟩)
    go_region
    all_goals go_wp2
    all_goals refine door_ret ?_
    all_goals refine leave12 _ (w.heap.size + 1 + 1) (w.heap.size + 1 + 1 + 1) (w.heap.size + 1 + 1 + 1 + 1) 0 a 1 _ _ rfl rfl rfl ?_ ?_ ?_ ⟨rfl, ?_⟩
    all_goals first | (with_reducible refine Below.drew ?_; repeat (first | with_reducible exact Below.refl _ _ | with_reducible refine Below.alloc ?_ (by simp; try omega) _)) | (simp [go_sem]; done)
end Go.Proofs.Ytekbdbcomfleeaa
