/- The contracts of Put, Next and Get of a codec of lists (layer 1, octet), told of any codec whose two functions keep a contract of their own. -/
import Derived.Test.YtplkodmmedhemaaL
import Derived.Laws.EntriesVeiled
namespace Go.Proofs.Ytplkodmmedhemaa
open Go.RowKit

theorem slice_of_is {w : World} {v : Value} {l : List Int} (h : SliceIs w v l) : (v = .slice none 0 0 ∧ l = []) ∨ ∃ b off cap, v = .slice (some ⟨b, off, none⟩) l.length cap ∧ b < w.heap.size ∧ ∀ i, i < l.length → w.cell? ⟨b, off + i, none⟩ = some (.int .i64 (l.getD i 0)) := h
theorem SliceFrom.is {B : Nat} {w : World} {v : Value} {l : List Int} (h : SliceFrom B w v l) : SliceIs w v l := by
  rcases h with h | ⟨b, off, cap, rfl, _, hc, C, fr, hr⟩
  · exact .inl h
  · exact .inr ⟨b, off, cap, rfl, lt_of_row hr, hc⟩

def LPutOk (W : World) (pv : Value) (g : List Int → ByteArray × Int) : Prop :=
  ∃ k first cap, pv = .func (.func k) first cap ∧ Enters k ∧ ∀ (l : List Int) (x : Value) (w1 : World), Below W.heap.size W w1 → SliceIs w1 x l → Calls Try.prog k (first.push x ++ cap) w1 fun e w2 => e = ret2 (g l) ∧ Below w1.heap.size w1 w2
def LNextOk (W : World) (nv : Value) (h : ByteArray → Nat → List Int × Int × Int) : Prop :=
  ∃ k first cap, nv = .func (.func k) first cap ∧ Enters k ∧ ∀ (s : ByteArray) (a : Nat) (w1 : World), s.size ≤ maxLen → a ≤ s.size → Below W.heap.size W w1 →
    Calls Try.prog k (first ++ (#[.string s, .int .i64 a] ++ cap)) w1 (RetList w1 (h s a).1 (h s a).2.1 (h s a).2.2)
def LCodecOk (W : World) (v : Value) (g : List Int → ByteArray × Int) (h : ByteArray → Nat → List Int × Int × Int) : Prop :=
  ∃ pv nv, v = .agg #[pv, nv] ∧ LPutOk W pv g ∧ LNextOk W nv h

theorem LPutOk.later {W W' : World} {pv : Value} {g : List Int → ByteArray × Int} (h : LPutOk W pv g) (hb : Below W.heap.size W W') : LPutOk W' pv g := by
  obtain ⟨k, f, c, e, hk, hc⟩ := h
  exact ⟨k, f, c, e, hk, fun l x w1 h1 hs => hc l x w1 (hb.trans (h1.mono hb.size)) hs⟩
theorem LNextOk.later {W W' : World} {nv : Value} {h : ByteArray → Nat → List Int × Int × Int} (hn : LNextOk W nv h) (hb : Below W.heap.size W W') : LNextOk W' nv h := by
  obtain ⟨k, f, c, e, hk, hc⟩ := hn
  exact ⟨k, f, c, e, hk, fun s a w1 hs ha h1 => hc s a w1 hs ha (hb.trans (h1.mono hb.size))⟩
theorem LCodecOk.later {W W' : World} {v : Value} {g : List Int → ByteArray × Int} {h : ByteArray → Nat → List Int × Int × Int} (hc : LCodecOk W v g h) (hb : Below W.heap.size W W') : LCodecOk W' v g h := by
  obtain ⟨pv, nv, e, hp, hn⟩ := hc
  exact ⟨pv, nv, e, hp.later hb, hn.later hb⟩

theorem lput_codec {W w : World} {v : Value} {g : List Int → ByteArray × Int} {h : ByteArray → Nat → List Int × Int × Int} (hc : LCodecOk W v g h) (hb : Below W.heap.size W w) (l : List Int) (x : Value) (hs : SliceIs w x l) :
    Calls Try.prog 21 #[v, x] w fun e w' => e = ret2 (nrm2 (g l)) ∧ Below w.heap.size w w' := by
  obtain ⟨pv, nv, rfl, ⟨k, f, c, rfl, hk, hp⟩, hn⟩ := hc
  exact put45_any k hk f c nv x (g l).1 (g l).2 w fun w1 h1 => hp l x w1 (hb.trans (h1.mono hb.size)) (hs.later h1)

/-- What Next of a codec of lists answers at any place. -/
def lnextAt (h : ByteArray → Nat → List Int × Int × Int) (s : ByteArray) (a : Int) : List Int × Int × Int :=
  if 0 ≤ a ∧ a ≤ s.size then (keepL (h s a.toNat).2.2 (h s a.toNat).1, keepM (h s a.toNat).2.2 a (h s a.toNat).2.1, (h s a.toNat).2.2) else ([], a, 1)

theorem lnext_codec {W w : World} {v : Value} {g : List Int → ByteArray × Int} {h : ByteArray → Nat → List Int × Int × Int} (hc : LCodecOk W v g h) (hb : Below W.heap.size W w) (s : ByteArray) (a : Int) (hs : s.size ≤ maxLen) :
    Calls Try.prog 19 #[v, .string s, .int .i64 a] w (RetList w (lnextAt h s a).1 (lnextAt h s a).2.1 (lnextAt h s a).2.2) := by
  obtain ⟨pv, nv, rfl, ⟨k0, f0, c0, rfl, hk0, hp⟩, ⟨k, f, c, rfl, hk, hn⟩⟩ := hc
  by_cases ha : 0 ≤ a ∧ a ≤ s.size
  · obtain ⟨h0, h1⟩ := ha
    obtain ⟨n, rfl⟩ := Int.eq_ofNat_of_zero_le h0
    have hl : n ≤ s.size := by omega
    unfold lnextAt
    rw [if_pos ⟨h0, h1⟩]
    exact next45_any k hk f c (.func k0) f0 c0 s n (h s n).1 (h s n).2.1 (h s n).2.2 w hl hs fun w1 hw => hn s n w1 hs hl (hb.trans (hw.mono hb.size))
  · unfold lnextAt
    rw [if_neg ha]
    refine (next45_bad (.func k0) f0 c0 _ s a w (by omega) hs).mono ?_
    rintro e w' ⟨rfl, hb'⟩
    exact ⟨none, 0, 0, rfl, .none _ _, hb'⟩

def RetGet (w : World) (l : List Int) (n : Int) (e : Ending) (w' : World) : Prop :=
  ∃ xa xn xc, e = .returned (.tuple #[.slice xa xn xc, .int .i64 n]) ∧ SliceFrom w.heap.size w' (.slice xa xn xc) l ∧ Below w.heap.size w w'
def lgetOf (h : ByteArray → Nat → List Int × Int × Int) (s : ByteArray) : List Int × Int :=
  if (lnextAt h s 0).2.2 = 0 then (if (lnextAt h s 0).2.1 = s.size then ((lnextAt h s 0).1, 0) else ([], 4)) else ([], (lnextAt h s 0).2.2)

set_option maxHeartbeats 800000 in
theorem lget_codec {W w : World} {v : Value} {g : List Int → ByteArray × Int} {h : ByteArray → Nat → List Int × Int × Int} (hc : LCodecOk W v g h) (hb : Below W.heap.size W w) (s : ByteArray) (hs : s.size ≤ maxLen) :
    Calls Try.prog 22 #[v, .string s] w (RetGet w (lgetOf h s).1 (lgetOf h s).2) := by
  have HC := Lib.hid hc
  have HS := Lib.hid hs
  obtain ⟨pv, nv, rfl, _, _⟩ := hc
  obtain ⟨l, m, n, hr⟩ : ∃ l m n, lnextAt h s 0 = (l, m, n) := ⟨_, _, _, rfl⟩
  have HR := Lib.hid hr
  obtain ⟨l1, n1, ho⟩ : ∃ l1 n1, lgetOf h s = (l1, n1) := ⟨_, _, rfl⟩
  rw [ho]
  have HO := Lib.hid ho
  clear hr ho
  unfold maxLen at hs
  by_cases h0 : n = 0
  · subst h0
    by_cases hm : m = s.size
    · have HQ : Hid (l1 = l ∧ n1 = 0) := Lib.hid (by have h1 := HO.out; simp [lgetOf, HR.out, hm] at h1; exact ⟨h1.1.symm, h1.2.symm⟩)
      subst hm
      go_enter Try.func22, Try.ntmps22
      go_wp2_with fail
      refine (lnext_codec HC.out (hb.trans (((Below.refl _ _).alloc (Nat.le_refl _) _).mono hb.size)) s 0 HS.out).mono ?_
      rw [HR.out]
      rintro e w2 ⟨xa, xn, xc, rfl, hsl, hb2⟩
      have HSL := Lib.hid (hsl.mono (B' := w.heap.size) (by simp))
      have HB2 := Lib.hid (((Below.refl w.heap.size w).alloc (Nat.le_refl _) _).trans (hb2.mono (by simp)))
      clear hsl hb2
      unfold ret3s
      go_wp2
      go_ret2
      obtain ⟨rfl, rfl⟩ := HQ.out
      exact ⟨xa, xn, xc, rfl, HSL.out, HB2.out⟩
    · have HQ : Hid (l1 = [] ∧ n1 = 4) := Lib.hid (by have h1 := HO.out; simp [lgetOf, HR.out, hm] at h1; exact ⟨h1.1, h1.2.symm⟩)
      have hm' : (m != s.size) = true := by simpa using hm
      clear hm
      go_enter Try.func22, Try.ntmps22
      go_wp2_with fail
      refine (lnext_codec HC.out (hb.trans (((Below.refl _ _).alloc (Nat.le_refl _) _).mono hb.size)) s 0 HS.out).mono ?_
      rw [HR.out]
      rintro e w2 ⟨xa, xn, xc, rfl, hsl, hb2⟩
      have HB2 := Lib.hid (((Below.refl w.heap.size w).alloc (Nat.le_refl _) _).trans (hb2.mono (by simp)))
      clear hsl hb2
      unfold ret3s
      go_wp2
      go_ret2
      obtain ⟨rfl, rfl⟩ := HQ.out
      exact ⟨none, 0, 0, rfl, .none _ _, HB2.out⟩
  · have HQ : Hid (l1 = [] ∧ n1 = n) := Lib.hid (by have h1 := HO.out; simp [lgetOf, HR.out, h0] at h1; exact ⟨h1.1, h1.2.symm⟩)
    have h0' : (n != 0) = true := by simpa using h0
    clear h0
    go_enter Try.func22, Try.ntmps22
    go_wp2_with fail
    refine (lnext_codec HC.out (hb.trans (((Below.refl _ _).alloc (Nat.le_refl _) _).mono hb.size)) s 0 HS.out).mono ?_
    rw [HR.out]
    rintro e w2 ⟨xa, xn, xc, rfl, hsl, hb2⟩
    have HB2 := Lib.hid (((Below.refl w.heap.size w).alloc (Nat.le_refl _) _).trans (hb2.mono (by simp)))
    clear hsl hb2
    unfold ret3s
    go_wp2
    go_ret2
    obtain ⟨rfl, rfl⟩ := HQ.out
    exact ⟨none, 0, 0, rfl, .none _ _, HB2.out⟩
end Go.Proofs.Ytplkodmmedhemaa
