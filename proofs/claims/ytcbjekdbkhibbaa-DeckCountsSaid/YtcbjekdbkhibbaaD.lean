/- The contracts of Put, Next and Get of a codec of numbers (layer 1, octet), told of any codec whose two functions keep a contract of their own. -/
import Derived.Test.YtcbjekdbkhibbaaC
namespace Go.Proofs.Ytcbjekdbkhibbaa
open Go.RowKit

def PutOk (W : World) (pv : Value) (g : Int → ByteArray × Int) : Prop :=
  ∃ k first cap, pv = .func (.func k) first cap ∧ Enters k ∧ ∀ (x : Int) (w1 : World), Below W.heap.size W w1 → Calls Try.prog k (first.push (.int .i64 x) ++ cap) w1 fun e w2 => e = ret2 (g x) ∧ Below w1.heap.size w1 w2
def NextOk (W : World) (nv : Value) (h : ByteArray → Nat → Int × Int × Int) : Prop :=
  ∃ k first cap, nv = .func (.func k) first cap ∧ Enters k ∧ ∀ (s : ByteArray) (a : Nat) (w1 : World), s.size ≤ maxLen → a ≤ s.size → Below W.heap.size W w1 →
    Calls Try.prog k (first ++ (#[.string s, .int .i64 a] ++ cap)) w1 fun e w2 => e = ret3 (h s a) ∧ Below w1.heap.size w1 w2
def CodecOk (W : World) (v : Value) (g : Int → ByteArray × Int) (h : ByteArray → Nat → Int × Int × Int) : Prop :=
  ∃ pv nv, v = .agg #[pv, nv] ∧ PutOk W pv g ∧ NextOk W nv h

theorem PutOk.later {W W' : World} {pv : Value} {g : Int → ByteArray × Int} (h : PutOk W pv g) (hb : Below W.heap.size W W') : PutOk W' pv g := by
  obtain ⟨k, f, c, e, hk, hc⟩ := h
  exact ⟨k, f, c, e, hk, fun x w1 h1 => hc x w1 (hb.trans (h1.mono hb.size))⟩
theorem NextOk.later {W W' : World} {nv : Value} {h : ByteArray → Nat → Int × Int × Int} (hn : NextOk W nv h) (hb : Below W.heap.size W W') : NextOk W' nv h := by
  obtain ⟨k, f, c, e, hk, hc⟩ := hn
  exact ⟨k, f, c, e, hk, fun s a w1 hs ha h1 => hc s a w1 hs ha (hb.trans (h1.mono hb.size))⟩
theorem CodecOk.later {W W' : World} {v : Value} {g : Int → ByteArray × Int} {h : ByteArray → Nat → Int × Int × Int} (hc : CodecOk W v g h) (hb : Below W.heap.size W W') : CodecOk W' v g h := by
  obtain ⟨pv, nv, e, hp, hn⟩ := hc
  exact ⟨pv, nv, e, hp.later hb, hn.later hb⟩

def nrm2 (r : ByteArray × Int) : ByteArray × Int := outS r.1 r.2
def nrm3 (a : Int) (r : Int × Int × Int) : Int × Int × Int := if r.2.2 = 0 then (r.1, r.2.1, 0) else (0, a, r.2.2)
def nextAt (h : ByteArray → Nat → Int × Int × Int) (s : ByteArray) (a : Int) : Int × Int × Int := if 0 ≤ a ∧ a ≤ s.size then nrm3 a (h s a.toNat) else (0, a, 1)

theorem put_codec {W w : World} {v : Value} {g : Int → ByteArray × Int} {h : ByteArray → Nat → Int × Int × Int} (hc : CodecOk W v g h) (hb : Below W.heap.size W w) (x : Int) :
    Calls Try.prog 20 #[v, .int .i64 x] w fun e w' => e = ret2 (nrm2 (g x)) ∧ Below w.heap.size w w' := by
  obtain ⟨pv, nv, rfl, ⟨k, f, c, rfl, hk, hp⟩, hn⟩ := hc
  exact put_any k hk f c nv x (g x).1 (g x).2 w fun w1 h1 => hp x w1 (hb.trans (h1.mono hb.size))

theorem next_codec {W w : World} {v : Value} {g : Int → ByteArray × Int} {h : ByteArray → Nat → Int × Int × Int} (hc : CodecOk W v g h) (hb : Below W.heap.size W w) (s : ByteArray) (a : Int) (hs : s.size ≤ maxLen) :
    Calls Try.prog 22 #[v, .string s, .int .i64 a] w fun e w' => e = ret3 (nextAt h s a) ∧ Below w.heap.size w w' := by
  obtain ⟨pv, nv, rfl, ⟨k0, f0, c0, rfl, hk0, hp⟩, ⟨k, f, c, rfl, hk, hn⟩⟩ := hc
  by_cases ha : 0 ≤ a ∧ a ≤ s.size
  · obtain ⟨h0, h1⟩ := ha
    obtain ⟨n, rfl⟩ := Int.eq_ofNat_of_zero_le h0
    have hl : n ≤ s.size := by omega
    unfold nextAt nrm3
    rw [if_pos ⟨h0, h1⟩]
    exact next_any k hk f c (.func k0) f0 c0 s n (h s n).1 (h s n).2.1 (h s n).2.2 w hl hs fun w1 hw => hn s n w1 hs hl (hb.trans (hw.mono hb.size))
  · unfold nextAt
    rw [if_neg ha]
    exact next_bad (.func k0) f0 c0 _ s a w (by omega) hs

def getOf (h : ByteArray → Nat → Int × Int × Int) (s : ByteArray) : Int × Int :=
  if (nextAt h s 0).2.2 = 0 then (if (nextAt h s 0).2.1 = s.size then ((nextAt h s 0).1, 0) else (0, 4)) else (0, (nextAt h s 0).2.2)
def ret2i (r : Int × Int) : Ending := .returned (.tuple #[.int .i64 r.1, .int .i64 r.2])

set_option maxHeartbeats 400000 in
theorem get_any (pv nv : Value) (x m n : Int) (s : ByteArray) (w : World) (_hs : s.size ≤ maxLen)
    (hc : ∀ w1, Below w.heap.size w w1 → Calls Try.prog 22 #[.agg #[pv, nv], .string s, .int .i64 0] w1 fun e w2 => e = ret3 (x, m, n) ∧ Below w1.heap.size w1 w2) :
    Calls Try.prog 25 #[.agg #[pv, nv], .string s] w fun e w' => e = ret2i (if n = 0 then (if m = s.size then (x, 0) else (0, 4)) else (0, n)) ∧ Below w.heap.size w w' := by
  unfold maxLen at _hs
  unfold ret3 at hc
  have HC := Lib.hid hc
  clear hc
  by_cases h0 : n = 0
  · subst h0
    by_cases hm : m = s.size
    · rw [if_pos rfl, if_pos hm]
      subst hm
      go_enter Try.func25, Try.ntmps25
      go_wp2_with fail
      refine (HC.out _ ((Below.refl _ _).alloc (Nat.le_refl _) _)).mono ?_
      rintro e w2 ⟨rfl, hb⟩
      go_wp2
      go_ret2
      exact ⟨rfl, ((Below.refl _ _).alloc (Nat.le_refl _) _).trans (hb.mono (by simp))⟩
    · rw [if_pos rfl, if_neg hm]
      have hm' : (m != s.size) = true := by simpa using hm
      clear hm
      go_enter Try.func25, Try.ntmps25
      go_wp2_with fail
      refine (HC.out _ ((Below.refl _ _).alloc (Nat.le_refl _) _)).mono ?_
      rintro e w2 ⟨rfl, hb⟩
      go_wp2
      go_ret2
      exact ⟨rfl, ((Below.refl _ _).alloc (Nat.le_refl _) _).trans (hb.mono (by simp))⟩
  · have h0' : (n != 0) = true := by simpa using h0
    rw [if_neg h0]
    clear h0
    go_enter Try.func25, Try.ntmps25
    go_wp2_with fail
    refine (HC.out _ ((Below.refl _ _).alloc (Nat.le_refl _) _)).mono ?_
    rintro e w2 ⟨rfl, hb⟩
    go_wp2
    go_ret2
    exact ⟨rfl, ((Below.refl _ _).alloc (Nat.le_refl _) _).trans (hb.mono (by simp))⟩

theorem get_codec {W w : World} {v : Value} {g : Int → ByteArray × Int} {h : ByteArray → Nat → Int × Int × Int} (hc : CodecOk W v g h) (hb : Below W.heap.size W w) (s : ByteArray) (hs : s.size ≤ maxLen) :
    Calls Try.prog 25 #[v, .string s] w fun e w' => e = ret2i (getOf h s) ∧ Below w.heap.size w w' := by
  have hc' := hc
  obtain ⟨pv, nv, rfl, hp, hn⟩ := hc
  exact get_any pv nv (nextAt h s 0).1 (nextAt h s 0).2.1 (nextAt h s 0).2.2 s w hs fun w1 hw => next_codec hc' (hb.trans (hw.mono hb.size)) s 0 hs
end Go.Proofs.Ytcbjekdbkhibbaa
