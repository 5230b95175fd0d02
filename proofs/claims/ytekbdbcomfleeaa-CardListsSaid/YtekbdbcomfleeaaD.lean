/- The contracts of Put, Next and Get of a codec of numbers (layer 1, octet), told of any codec whose two functions keep a contract of their own. The contracts of Make and Num of codecs of numbers (layer 1, octet): what Num answers is a codec that writes and reads numbers in the held width. The contracts of Map of a codec of numbers (layer 1, octet), of what writes and of what reads through it. The contract of Map of codecs of numbers (layer 1, octet): what it answers is a codec again. -/
import Derived.Test.YtekbdbcomfleeaaA
import Derived.Laws.EntriesVeiled
import Derived.Deep.RegionHeld3
namespace Go.Proofs.Ytekbdbcomfleeaa
open Go.RowKit

def PutOk (W : World) (pv : Value) (g : Int → ByteArray × Int) : Prop :=
  ∃ k first cap, pv = .func (.func k) first cap ∧ Enters k ∧ ∀ (x : Int) (w1 : World), Below W.heap.size W w1 → Calls Try.prog k (first.push (.int .i64 x) ++ cap) w1 fun e w2 => e = ret2 (g x) ∧ Below w1.heap.size w1 w2
def NextOk (W : World) (nv : Value) (h : ByteArray → Nat → Int × Int × Int) : Prop :=
  ∃ k first cap, nv = .func (.func k) first cap ∧ Enters k ∧ ∀ (s : ByteArray) (a : Nat) (w1 : World), s.size ≤ maxLen → a ≤ s.size → Below W.heap.size W w1 →
    Calls Try.prog k (first ++ (#[.string s, .int .i64 a] ++ cap)) w1 fun e w2 => e = ret3 (h s a) ∧ Below w1.heap.size w1 w2
def CodecOk (W : World) (v : Value) (g : Int → ByteArray × Int) (h : ByteArray → Nat → Int × Int × Int) : Prop :=
  ∃ pv nv, v = .agg #[pv, nv] ∧ PutOk W pv g ∧ NextOk W nv h

theorem PutOk.later {W W' : World} {pv : Value} {g : Int → ByteArray × Int} (h : PutOk W pv g) (hb : Below W.heap.size W W') : PutOk W' pv g := by
  obtain ⟨k, f, c, e, hk, hc⟩ := h
  exact ⟨k, f, c, e, hk, fun x w1 h1 => hc x w1 (hb.trans (h1.mono hb.size))⟩
theorem NextOk.later {W W' : World} {nv : Value} {h : ByteArray → Nat → Int × Int × Int} (hn : NextOk W nv h) (hb : Below W.heap.size W W') : NextOk W' nv h := by
  obtain ⟨k, f, c, e, hk, hc⟩ := hn
  exact ⟨k, f, c, e, hk, fun s a w1 hs ha h1 => hc s a w1 hs ha (hb.trans (h1.mono hb.size))⟩
theorem CodecOk.later {W W' : World} {v : Value} {g : Int → ByteArray × Int} {h : ByteArray → Nat → Int × Int × Int} (hc : CodecOk W v g h) (hb : Below W.heap.size W W') : CodecOk W' v g h := by
  obtain ⟨pv, nv, e, hp, hn⟩ := hc
  exact ⟨pv, nv, e, hp.later hb, hn.later hb⟩

def nrm2 (r : ByteArray × Int) : ByteArray × Int := outS r.1 r.2
def nrm3 (a : Int) (r : Int × Int × Int) : Int × Int × Int := if r.2.2 = 0 then (r.1, r.2.1, 0) else (0, a, r.2.2)
def nextAt (h : ByteArray → Nat → Int × Int × Int) (s : ByteArray) (a : Int) : Int × Int × Int := if 0 ≤ a ∧ a ≤ s.size then nrm3 a (h s a.toNat) else (0, a, 1)

theorem put_codec {W w : World} {v : Value} {g : Int → ByteArray × Int} {h : ByteArray → Nat → Int × Int × Int} (hc : CodecOk W v g h) (hb : Below W.heap.size W w) (x : Int) :
    Calls Try.prog 82 #[v, .int .i64 x] w fun e w' => e = ret2 (nrm2 (g x)) ∧ Below w.heap.size w w' := by
  obtain ⟨pv, nv, rfl, ⟨k, f, c, rfl, hk, hp⟩, hn⟩ := hc
  exact put_any k hk f c nv x (g x).1 (g x).2 w fun w1 h1 => hp x w1 (hb.trans (h1.mono hb.size))

theorem next_codec {W w : World} {v : Value} {g : Int → ByteArray × Int} {h : ByteArray → Nat → Int × Int × Int} (hc : CodecOk W v g h) (hb : Below W.heap.size W w) (s : ByteArray) (a : Int) (hs : s.size ≤ maxLen) :
    Calls Try.prog 78 #[v, .string s, .int .i64 a] w fun e w' => e = ret3 (nextAt h s a) ∧ Below w.heap.size w w' := by
  obtain ⟨pv, nv, rfl, ⟨k0, f0, c0, rfl, hk0, hp⟩, ⟨k, f, c, rfl, hk, hn⟩⟩ := hc
  by_cases ha : 0 ≤ a ∧ a ≤ s.size
  · obtain ⟨h0, h1⟩ := ha
    obtain ⟨n, rfl⟩ := Int.eq_ofNat_of_zero_le h0
    have hl : n ≤ s.size := by omega
    unfold nextAt nrm3
    rw [if_pos ⟨h0, h1⟩]
    exact next_any k hk f c (.func k0) f0 c0 s n (h s n).1 (h s n).2.1 (h s n).2.2 w hl hs fun w1 hw => hn s n w1 hs hl (hb.trans (hw.mono hb.size))
  · unfold nextAt
    rw [if_neg ha]
    exact next_bad (.func k0) f0 c0 _ s a w (by omega) hs

def getOf (h : ByteArray → Nat → Int × Int × Int) (s : ByteArray) : Int × Int :=
  if (nextAt h s 0).2.2 = 0 then (if (nextAt h s 0).2.1 = s.size then ((nextAt h s 0).1, 0) else (0, 4)) else (0, (nextAt h s 0).2.2)
def ret2i (r : Int × Int) : Ending := .returned (.tuple #[.int .i64 r.1, .int .i64 r.2])

end Go.Proofs.Ytekbdbcomfleeaa
namespace Go.Proofs.Ytekbdbcomfleeaa
open Go.RowKit

def heldN (width : Int) : Nat := if width < 1 then 1 else if 4 < width then 4 else width.toNat
theorem heldN_bd (width : Int) : 1 ≤ heldN width ∧ heldN width ≤ 4 := by unfold heldN; split <;> (try split) <;> omega

set_option maxHeartbeats 400000 in
theorem num1_any (n : Nat) (b : Nat) (x : Int) (w : World) (h1 : 1 ≤ n) (h4 : n ≤ 4) (hc : w.cell? ⟨b, 0, none⟩ = some (.int .i64 n)) :
    Calls Try.prog 90 #[.int .i64 x, .pointer (some ⟨b, 0, none⟩)] w fun e w' => e = ret2 (putN n x) ∧ Below w.heap.size w w' := by
  go_enter Try.func90, Try.ntmps90
  go_wp2_with (go_at_call 91; refine (putNum_any _ _ _ h1 h4).mono ?_; rintro e w2 ⟨rfl, hb⟩; unfold ret2)
  go_ret2
  exact ⟨rfl, hb⟩

set_option maxHeartbeats 400000 in
theorem num2_any (n : Nat) (b : Nat) (s : ByteArray) (a : Nat) (w : World) (h1 : 1 ≤ n) (h4 : n ≤ 4) (ha : a ≤ s.size) (hs : s.size ≤ maxLen) (hc : w.cell? ⟨b, 0, none⟩ = some (.int .i64 n)) :
    Calls Try.prog 92 #[.string s, .int .i64 a, .pointer (some ⟨b, 0, none⟩)] w fun e w' => e = ret3 (nextN n s a) ∧ Below w.heap.size w w' := by
  go_enter Try.func92, Try.ntmps92
  go_wp2_with (go_at_call 93; refine (nextNum_any _ _ _ _ h1 h4 ha hs).mono ?_; rintro e w2 ⟨rfl, rfl⟩; unfold ret3)
  go_ret3
  exact ⟨rfl, Below.refl _ _⟩

theorem eq_func26 (fn : Fn) (fi ca : Array Value) (u : World) : (binOp .eql 110 (.func fn fi ca) .nilFunc).run Try.prog u = .ok (.bool false) u := by kernel_rfl

set_option maxHeartbeats 400000 in
theorem make_some (f0 : Fn) (fi0 ca0 : Array Value) (f1 : Fn) (fi1 ca1 : Array Value) (w : World) :
    Calls Try.prog 89 #[.func f0 fi0 ca0, .func f1 fi1 ca1] w fun e w' => e = .returned (.agg #[.func f0 fi0 ca0, .func f1 fi1 ca1]) ∧ Below w.heap.size w w' := by
  have e1 := @eg_func
  have e2 := @eq_func25
  have e3 := @eq_func26
  go_enter Try.func89, Try.ntmps89
  go_wp2
  exact bodyPost_ret (by simp [results, Try.results89, go_sem]) rfl ⟨rfl, (Below.refl _ _).alloc (Nat.le_refl _) _⟩

set_option maxHeartbeats 400000 in
theorem make_nil (w : World) :
    Calls Try.prog 89 #[.nilFunc, .nilFunc] w fun e w' => e = .returned (.agg #[.nilFunc, .nilFunc]) ∧ Below w.heap.size w w' := by
  have e1 := @eg_nil
  have e2 := @eq_nil25
  go_enter Try.func89, Try.ntmps89
  go_wp2
  exact bodyPost_ret (by simp [results, Try.results89, go_sem]) rfl ⟨rfl, (Below.refl _ _).alloc (Nat.le_refl _) _⟩

set_option maxHeartbeats 400000 in
theorem num_any (width : Int) (w : World) :
    Calls Try.prog 77 #[.int .i64 width] w fun e w' => e = .returned (.agg #[.func (.func 90) #[] #[.pointer (some ⟨w.heap.size, 0, none⟩)], .func (.func 92) #[] #[.pointer (some ⟨w.heap.size, 0, none⟩)]]) ∧
      w'.cell? ⟨w.heap.size, 0, none⟩ = some (.int .i64 (heldN width)) ∧ w.heap.size < w'.heap.size ∧ Below w.heap.size w w' := by
  have hmf := @mk_func
  rcases (by omega : width < 1 ∨ (1 ≤ width ∧ width ≤ 4) ∨ 4 < width) with h | h | h
  · have hh : heldN width = 1 := by unfold heldN; rw [if_pos h]
    rw [hh]
    clear hh
    go_enter Try.func77, Try.ntmps77
    go_wp2_with (go_at_call 89; refine (make_some _ _ _ _ _ _ _).mono ?_; rintro e w2 ⟨rfl, hb⟩; have hcells := bcell hb)
    have hz := hb.size
    simp at hz
    refine bodyPost_ret (by simp [results, Try.results77, go_sem, hcells, World.cell?_setCell_other]) rfl ⟨rfl, ?_, ?_, ?_⟩
    · rw [World.cell?_setCell_other _ _ _ _ (by simp), World.cell?_setCell_other _ _ _ _ (by simp), hcells.1 _ _ (by simp; omega)]
      simp [go_sem]
    · simp [World.setCell]; omega
    · exact (((((Below.refl _ _).alloc (Nat.le_refl _) _).alloc (by simp) _).trans (hb.mono (by simp; omega))).setCell (by simp) _).setCell (by simp) _
  · have hh : heldN width = width.toNat := by unfold heldN; rw [if_neg (by omega), if_neg (by omega)]
    rw [hh, Int.toNat_of_nonneg (by omega)]
    clear hh
    have h1 : (if width < 1 then 1 else width) = width := if_neg (by omega)
    have h2 : ¬ 4 < width := by omega
    go_enter Try.func77, Try.ntmps77
    go_wp2_with (go_at_call 89; refine (make_some _ _ _ _ _ _ _).mono ?_; rintro e w2 ⟨rfl, hb⟩; have hcells := bcell hb)
    have hz := hb.size
    simp at hz
    refine bodyPost_ret (by simp [results, Try.results77, go_sem, hcells, World.cell?_setCell_other]) rfl ⟨rfl, ?_, ?_, ?_⟩
    · rw [World.cell?_setCell_other _ _ _ _ (by simp), World.cell?_setCell_other _ _ _ _ (by simp), hcells.1 _ _ (by simp; omega)]
      simp [go_sem]
    · simp [World.setCell]; omega
    · exact (((((Below.refl _ _).alloc (Nat.le_refl _) _).alloc (by simp) _).trans (hb.mono (by simp; omega))).setCell (by simp) _).setCell (by simp) _
  · have hh : heldN width = 4 := by unfold heldN; rw [if_neg (by omega), if_pos h]
    rw [hh]
    clear hh
    have h1 : (if width < 1 then 1 else width) = width := if_neg (by omega)
    go_enter Try.func77, Try.ntmps77
    go_wp2_with (go_at_call 89; refine (make_some _ _ _ _ _ _ _).mono ?_; rintro e w2 ⟨rfl, hb⟩; have hcells := bcell hb)
    have hz := hb.size
    simp at hz
    refine bodyPost_ret (by simp [results, Try.results77, go_sem, hcells, World.cell?_setCell_other]) rfl ⟨rfl, ?_, ?_, ?_⟩
    · rw [World.cell?_setCell_other _ _ _ _ (by simp), World.cell?_setCell_other _ _ _ _ (by simp), hcells.1 _ _ (by simp; omega)]
      simp [go_sem]
    · simp [World.setCell]; omega
    · exact (((((Below.refl _ _).alloc (Nat.le_refl _) _).alloc (by simp) _).trans (hb.mono (by simp; omega))).setCell (by simp) _).setCell (by simp) _

theorem enters27 : Enters 90 := fun _ _ => by kernel_rfl
theorem enters29 : Enters 92 := fun _ _ => by kernel_rfl

theorem num_codec (width : Int) (w : World) :
    Calls Try.prog 77 #[.int .i64 width] w fun e w' => ∃ v, e = .returned v ∧ CodecOk w' v (putN (heldN width)) (nextN (heldN width)) ∧ Below w.heap.size w w' := by
  have hh := heldN_bd width
  refine (num_any width w).mono fun e w' h => ?_
  obtain ⟨rfl, hc, hz, hb⟩ := h
  refine ⟨_, rfl, ⟨_, _, rfl, ⟨90, #[], #[.pointer (some ⟨w.heap.size, 0, none⟩)], rfl, enters27, fun x w1 h1 => ?_⟩, ⟨92, #[], #[.pointer (some ⟨w.heap.size, 0, none⟩)], rfl, enters29, fun s a w1 hs ha h1 => ?_⟩⟩, hb⟩
  · exact num1_any _ _ x w1 hh.1 hh.2 ((h1.cell (p := ⟨w.heap.size, 0, none⟩) hz).trans hc)
  · exact num2_any _ _ s a w1 hh.1 hh.2 ha hs ((h1.cell (p := ⟨w.heap.size, 0, none⟩) hz).trans hc)
end Go.Proofs.Ytekbdbcomfleeaa
namespace Go.Proofs.Ytekbdbcomfleeaa
open Go.RowKit
def ToOk (W : World) (tv : Value) (f : Int → Int × Bool) : Prop :=
  ∃ k first cap, tv = .func (.func k) first cap ∧ Enters k ∧ ∀ (y : Int) (w1 : World), Below W.heap.size W w1 → Calls Try.prog k (first.push (.int .i64 y) ++ cap) w1 fun e w2 => e = .returned (.tuple #[.int .i64 (f y).1, .bool (f y).2]) ∧ Below w1.heap.size w1 w2
def FromOk (W : World) (tv : Value) (f : Int → Int) : Prop :=
  ∃ k first cap, tv = .func (.func k) first cap ∧ Enters k ∧ ∀ (y : Int) (w1 : World), Below W.heap.size W w1 → Calls Try.prog k (first.push (.int .i64 y) ++ cap) w1 fun e w2 => e = .returned (.int .i64 (f y)) ∧ Below w1.heap.size w1 w2
theorem ToOk.later {W W' : World} {pv : Value} {g : Int → Int × Bool} (h : ToOk W pv g) (hb : Below W.heap.size W W') : ToOk W' pv g := by
  obtain ⟨k, f, c, e, hk, hc⟩ := h
  exact ⟨k, f, c, e, hk, fun x w1 h1 => hc x w1 (hb.trans (h1.mono hb.size))⟩
theorem FromOk.later {W W' : World} {pv : Value} {g : Int → Int} (h : FromOk W pv g) (hb : Below W.heap.size W W') : FromOk W' pv g := by
  obtain ⟨k, f, c, e, hk, hc⟩ := h
  exact ⟨k, f, c, e, hk, fun x w1 h1 => hc x w1 (hb.trans (h1.mono hb.size))⟩

def mapPut (r : ByteArray × Int) (ok : Bool) : ByteArray × Int := if r.2 = 0 then (if ok then (r.1, 0) else (⟨#[]⟩, 4)) else (⟨#[]⟩, r.2)

def mapNext (a : Int) (r : Int × Int × Int) (t : Int × Bool) : Int × Int × Int := if r.2.2 = 0 then (if t.2 then (t.1, r.2.1, 0) else (0, a, 4)) else (0, a, r.2.2)

end Go.Proofs.Ytekbdbcomfleeaa
namespace Go.Proofs.Ytekbdbcomfleeaa
open Go.RowKit

theorem below_of_drew {w w2 : World} (h : Below w.drew.heap.size w.drew w2) : Below w.heap.size w w2 := ⟨h.os, h.tape, h.output, h.size, h.block⟩
theorem below_drew (w : World) : Below w.heap.size w w.drew := (Below.refl _ _).drew

theorem lt_of_cell {w : World} {b o : Nat} {v : Value} (h : w.cell? ⟨b, o, none⟩ = some v) : b < w.heap.size := by
  rcases Nat.lt_or_ge b w.heap.size with hlt | hge
  · exact hlt
  · simp [World.cell?, Array.getElem?_eq_none hge] at h
theorem cell_keeps {w w2 : World} (hb : Below w.heap.size w w2) {b o : Nat} {v : Value} (h : w.cell? ⟨b, o, none⟩ = some v) : w2.cell? ⟨b, o, none⟩ = some v := (hb.cell (p := ⟨b, o, none⟩) (lt_of_cell h)).trans h

theorem keepS {w w1 w2 : World} {b1 b2 b3 : Nat} {v1 v2 v3 v4 : Value} (hb : Below w1.heap.size w1 w2)
    (h : Below w.heap.size w w1 ∧ w1.cell? ⟨b1, 0, none⟩ = some v1 ∧ w1.cell? ⟨b1, 1, none⟩ = some v2 ∧ w1.cell? ⟨b2, 0, none⟩ = some v3 ∧ w1.cell? ⟨b3, 0, none⟩ = some v4) :
    Below w.heap.size w w2 ∧ w2.cell? ⟨b1, 0, none⟩ = some v1 ∧ w2.cell? ⟨b1, 1, none⟩ = some v2 ∧ w2.cell? ⟨b2, 0, none⟩ = some v3 ∧ w2.cell? ⟨b3, 0, none⟩ = some v4 :=
  ⟨h.1.trans (hb.mono h.1.size), cell_keeps hb h.2.1, cell_keeps hb h.2.2.1, cell_keeps hb h.2.2.2.1, cell_keeps hb h.2.2.2.2⟩

def mPut (g : Int → ByteArray × Int) (tf : Int → Int × Bool) (ff : Int → Int) (x : Int) : ByteArray × Int := mapPut (nrm2 (g (ff x))) (tf (ff x)).2
def mNext (h : ByteArray → Nat → Int × Int × Int) (tf : Int → Int × Bool) (s : ByteArray) (a : Nat) : Int × Int × Int := mapNext a (nextAt h s a) (tf (nextAt h s a).1)

end Go.Proofs.Ytekbdbcomfleeaa
