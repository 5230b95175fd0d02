/- The contract of List of a codec of numbers (layer 1, octet): what it answers is a codec of lists. -/
import Derived.Test.YtplkodmmedhemaaN
namespace Go.Proofs.Ytplkodmmedhemaa
open Go.RowKit

def mostN (most : Int) : Nat := if most < 0 then 0 else if 255 < most then 255 else most.toNat
theorem mostN_le (most : Int) : mostN most ≤ 255 := by unfold mostN; split <;> (try split) <;> omega

set_option maxHeartbeats 400000 in
theorem make38_some (f0 : Fn) (fi0 ca0 : Array Value) (f1 : Fn) (fi1 ca1 : Array Value) (w : World) :
    Calls Try.prog 38 #[.func f0 fi0 ca0, .func f1 fi1 ca1] w fun e w' => e = .returned (.agg #[.func f0 fi0 ca0, .func f1 fi1 ca1]) ∧ Below w.heap.size w w' := by
  have e1 := @eg_func
  have e2 := @eq_func42
  have e3 := @eq_func43
  go_enter Try.func38, Try.ntmps38
  go_wp2
  exact bodyPost_ret (by simp [results, Try.results38, go_sem]) rfl ⟨rfl, (Below.refl _ _).alloc (Nat.le_refl _) _⟩

set_option maxHeartbeats 800000 in
theorem list_any (f0 : Fn) (fi0 ca0 : Array Value) (f1 : Fn) (fi1 ca1 : Array Value) (most : Int) (w : World) :
    Calls Try.prog 17 #[.agg #[.func f0 fi0 ca0, .func f1 fi1 ca1], .int .i64 most] w fun e w' =>
      e = .returned (.agg #[.func (.func 39) #[] #[.pointer (some ⟨w.heap.size, 0, none⟩), .pointer (some ⟨w.heap.size + 1, 0, none⟩)],
        .func (.func 41) #[] #[.pointer (some ⟨w.heap.size, 0, none⟩), .pointer (some ⟨w.heap.size + 1, 0, none⟩)]]) ∧
      w'.cell? ⟨w.heap.size, 0, none⟩ = some (.func f0 fi0 ca0) ∧ w'.cell? ⟨w.heap.size, 1, none⟩ = some (.func f1 fi1 ca1) ∧
      w'.cell? ⟨w.heap.size + 1, 0, none⟩ = some (.int .i64 (mostN most)) ∧
      w.heap.size + 1 < w'.heap.size ∧ Below w.heap.size w w' := by
  have hmf := @mk_func
  have e1 := @eg_func
  have hh : ((mostN most : Nat) : Int) = min (max most 0) 255 := by unfold mostN; split <;> (try split) <;> omega
  rw [hh]
  clear hh
  go_enter Try.func17, Try.ntmps17
  go_wp2_with (first | (go_at_call 33; refine (none_func _ _ _ _ _).mono ?_; rintro e w' ⟨rfl, rfl⟩) | (go_at_call 38; refine (make38_some _ _ _ _ _ _ _).mono ?_; rintro e w2 ⟨rfl, hb⟩; have hcells := bcell hb))
  have hz := hb.size
  simp at hz
  refine bodyPost_ret (by simp [results, Try.results17, go_sem, hcells, World.cell?_setCell_other]) rfl ⟨rfl, ?_, ?_, ?_, ?_, ?_⟩
  · rw [World.cell?_setCell_other _ _ _ _ (by simp), World.cell?_setCell_other _ _ _ _ (by simp), hcells.1 _ _ (by simp; omega)]
    simp [go_sem]
  · rw [World.cell?_setCell_other _ _ _ _ (by simp), World.cell?_setCell_other _ _ _ _ (by simp), hcells.1 _ _ (by simp; omega)]
    simp [go_sem]
  · rw [World.cell?_setCell_other _ _ _ _ (by simp), World.cell?_setCell_other _ _ _ _ (by simp), hcells.1 _ _ (by simp)]
    simp [go_sem]
  · simp [World.setCell]; omega
  · exact (((((((Below.refl _ _).alloc (Nat.le_refl _) _).alloc (by simp) _).alloc (by simp; omega) _).alloc (by simp; omega) _).trans (hb.mono (by simp; omega))).setCell (by simp; omega) _).setCell (by simp; omega) _

set_option maxHeartbeats 400000 in
theorem list1_any (b1 b2 : Nat) (pv nv : Value) (most : Int) (x : Value) (r : ByteArray × Int) (w : World)
    (c1 : w.cell? ⟨b1, 0, none⟩ = some pv) (c2 : w.cell? ⟨b1, 1, none⟩ = some nv) (c3 : w.cell? ⟨b2, 0, none⟩ = some (.int .i64 most))
    (hp : Calls Try.prog 40 #[.agg #[pv, nv], .int .i64 most, x] w fun e w2 => e = ret2 r ∧ Below w.heap.size w w2) :
    Calls Try.prog 39 #[x, .pointer (some ⟨b1, 0, none⟩), .pointer (some ⟨b2, 0, none⟩)] w fun e w' => e = ret2 r ∧ Below w.heap.size w w' := by
  unfold ret2 at hp
  have HP := Lib.hid hp
  clear hp
  go_enter Try.func39, Try.ntmps39
  go_wp2_with fail
  refine HP.out.mono ?_
  rintro e w2 ⟨rfl, hb⟩
  go_wp2
  go_ret2
  exact ⟨rfl, hb⟩

set_option maxHeartbeats 400000 in
theorem list2_any (b1 b2 : Nat) (pv nv : Value) (most : Int) (s : ByteArray) (a : Int) (l : List Int) (m n : Int) (w : World)
    (c1 : w.cell? ⟨b1, 0, none⟩ = some pv) (c2 : w.cell? ⟨b1, 1, none⟩ = some nv) (c3 : w.cell? ⟨b2, 0, none⟩ = some (.int .i64 most))
    (hp : Calls Try.prog 42 #[.agg #[pv, nv], .int .i64 most, .string s, .int .i64 a] w (RetList w l m n)) :
    Calls Try.prog 41 #[.string s, .int .i64 a, .pointer (some ⟨b1, 0, none⟩), .pointer (some ⟨b2, 0, none⟩)] w (RetList w l m n) := by
  have HP := Lib.hid hp
  clear hp
  go_enter Try.func41, Try.ntmps41
  go_wp2_with fail
  refine HP.out.mono ?_
  rintro e w2 ⟨xa, xn, xc, rfl, hsl, hb⟩
  unfold ret3s
  have HSL := Lib.hid hsl
  clear hsl
  go_wp2
  go_ret3
  exact ⟨xa, xn, xc, rfl, HSL.out, hb⟩

theorem enters39 : Enters 39 := fun _ _ => by kernel_rfl
theorem enters41 : Enters 41 := fun _ _ => by kernel_rfl

def lnextI (h : ByteArray → Nat → Int × Int × Int) (most : Nat) (s : ByteArray) (a : Nat) : List Int × Int × Int := lnext h most s a

theorem list_codec {W w : World} {v : Value} {g : Int → ByteArray × Int} {h : ByteArray → Nat → Int × Int × Int} (hc : CodecOk W v g h) (hb : Below W.heap.size W w) (hg : ∀ x, (nrm2 (g x)).1.size ≤ 4) (most : Int) :
    Calls Try.prog 17 #[v, .int .i64 most] w fun e w' => ∃ v', e = .returned v' ∧ LCodecOk w' v' (lput g (mostN most)) (lnextI h (mostN most)) ∧ Below w.heap.size w w' := by
  have hc0 := hc
  have hm := mostN_le most
  obtain ⟨pv, nv, rfl, ⟨k0, f0, a0, rfl, hk0, _⟩, ⟨k1, f1, a1, rfl, hk1, _⟩⟩ := hc
  refine (list_any _ _ _ _ _ _ most w).mono fun e w' hw => ?_
  obtain ⟨rfl, c1, c2, c3, hz, hbw⟩ := hw
  refine ⟨_, rfl, ⟨_, _, rfl, ⟨39, #[], #[_, _], rfl, enters39, fun l x w1 h1 hs => ?_⟩, ⟨41, #[], #[_, _], rfl, enters41, fun s a w1 hs ha h1 => ?_⟩⟩, hbw⟩
  · have hW1 : Below W.heap.size W w1 := hb.trans ((hbw.trans (h1.mono hbw.size)).mono hb.size)
    refine list1_any _ _ _ _ _ x _ w1 (cell_keeps h1 c1) (cell_keeps h1 c2) (cell_keeps h1 c3) ?_
    rcases hs with ⟨rfl, rfl⟩ | ⟨b, off, cap, rfl, hlt, hcell⟩
    · exact putList_nil _ _ g _ w1
    · exact putList_any hc0 hW1 hg _ hm b off cap l hlt hcell
  · have hW1 : Below W.heap.size W w1 := hb.trans ((hbw.trans (h1.mono hbw.size)).mono hb.size)
    exact list2_any _ _ _ _ _ s a _ _ _ w1 (cell_keeps h1 c1) (cell_keeps h1 c2) (cell_keeps h1 c3) (nextList_any hc0 hW1 _ hm s a hs)
end Go.Proofs.Ytplkodmmedhemaa
