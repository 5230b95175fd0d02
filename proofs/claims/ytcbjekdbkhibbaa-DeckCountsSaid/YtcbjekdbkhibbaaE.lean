/- The contracts of Make and Num of codecs of numbers (layer 1, octet): what Num answers is a codec that writes and reads numbers in the held width. -/
import Derived.Test.YtcbjekdbkhibbaaD
import Derived.Laws.EntriesVeiled
namespace Go.Proofs.Ytcbjekdbkhibbaa
open Go.RowKit

def heldN (width : Int) : Nat := if width < 1 then 1 else if 4 < width then 4 else width.toNat
theorem heldN_bd (width : Int) : 1 ≤ heldN width ∧ heldN width ≤ 4 := by unfold heldN; split <;> (try split) <;> omega

set_option maxHeartbeats 400000 in
theorem num1_any (n : Nat) (b : Nat) (x : Int) (w : World) (h1 : 1 ≤ n) (h4 : n ≤ 4) (hc : w.cell? ⟨b, 0, none⟩ = some (.int .i64 n)) :
    Calls Try.prog 70 #[.int .i64 x, .pointer (some ⟨b, 0, none⟩)] w fun e w' => e = ret2 (putN n x) ∧ Below w.heap.size w w' := by
  go_enter Try.func70, Try.ntmps70
  go_wp2_with (go_at_call 71; refine (putNum_any _ _ _ h1 h4).mono ?_; rintro e w2 ⟨rfl, hb⟩; unfold ret2)
  go_ret2
  exact ⟨rfl, hb⟩

set_option maxHeartbeats 400000 in
theorem num2_any (n : Nat) (b : Nat) (s : ByteArray) (a : Nat) (w : World) (h1 : 1 ≤ n) (h4 : n ≤ 4) (ha : a ≤ s.size) (hs : s.size ≤ maxLen) (hc : w.cell? ⟨b, 0, none⟩ = some (.int .i64 n)) :
    Calls Try.prog 72 #[.string s, .int .i64 a, .pointer (some ⟨b, 0, none⟩)] w fun e w' => e = ret3 (nextN n s a) ∧ Below w.heap.size w w' := by
  go_enter Try.func72, Try.ntmps72
  go_wp2_with (go_at_call 73; refine (nextNum_any _ _ _ _ h1 h4 ha hs).mono ?_; rintro e w2 ⟨rfl, rfl⟩; unfold ret3)
  go_ret3
  exact ⟨rfl, Below.refl _ _⟩

theorem eq_func26 (fn : Fn) (fi ca : Array Value) (u : World) : (binOp .eql 26 (.func fn fi ca) .nilFunc).run Try.prog u = .ok (.bool false) u := by kernel_rfl

set_option maxHeartbeats 400000 in
theorem make_some (f0 : Fn) (fi0 ca0 : Array Value) (f1 : Fn) (fi1 ca1 : Array Value) (w : World) :
    Calls Try.prog 36 #[.func f0 fi0 ca0, .func f1 fi1 ca1] w fun e w' => e = .returned (.agg #[.func f0 fi0 ca0, .func f1 fi1 ca1]) ∧ Below w.heap.size w w' := by
  have e1 := @eg_func
  have e2 := @eq_func25
  have e3 := @eq_func26
  go_enter Try.func36, Try.ntmps36
  go_wp2
  exact bodyPost_ret (by simp [results, Try.results36, go_sem]) rfl ⟨rfl, (Below.refl _ _).alloc (Nat.le_refl _) _⟩

set_option maxHeartbeats 400000 in
theorem make_nil (w : World) :
    Calls Try.prog 36 #[.nilFunc, .nilFunc] w fun e w' => e = .returned (.agg #[.nilFunc, .nilFunc]) ∧ Below w.heap.size w w' := by
  have e1 := @eg_nil
  have e2 := @eq_nil25
  go_enter Try.func36, Try.ntmps36
  go_wp2
  exact bodyPost_ret (by simp [results, Try.results36, go_sem]) rfl ⟨rfl, (Below.refl _ _).alloc (Nat.le_refl _) _⟩

set_option maxHeartbeats 400000 in
theorem num_any (width : Int) (w : World) :
    Calls Try.prog 18 #[.int .i64 width] w fun e w' => e = .returned (.agg #[.func (.func 70) #[] #[.pointer (some ⟨w.heap.size, 0, none⟩)], .func (.func 72) #[] #[.pointer (some ⟨w.heap.size, 0, none⟩)]]) ∧
      w'.cell? ⟨w.heap.size, 0, none⟩ = some (.int .i64 (heldN width)) ∧ w.heap.size < w'.heap.size ∧ Below w.heap.size w w' := by
  have hmf := @mk_func
  rcases (by omega : width < 1 ∨ (1 ≤ width ∧ width ≤ 4) ∨ 4 < width) with h | h | h
  · have hh : heldN width = 1 := by unfold heldN; rw [if_pos h]
    rw [hh]
    clear hh
    go_enter Try.func18, Try.ntmps18
    go_wp2_with (go_at_call 36; refine (make_some _ _ _ _ _ _ _).mono ?_; rintro e w2 ⟨rfl, hb⟩; have hcells := bcell hb)
    have hz := hb.size
    simp at hz
    refine bodyPost_ret (by simp [results, Try.results18, go_sem, hcells, World.cell?_setCell_other]) rfl ⟨rfl, ?_, ?_, ?_⟩
    · rw [World.cell?_setCell_other _ _ _ _ (by simp), World.cell?_setCell_other _ _ _ _ (by simp), hcells.1 _ _ (by simp; omega)]
      simp [go_sem]
    · simp [World.setCell]; omega
    · exact (((((Below.refl _ _).alloc (Nat.le_refl _) _).alloc (by simp) _).trans (hb.mono (by simp; omega))).setCell (by simp) _).setCell (by simp) _
  · have hh : heldN width = width.toNat := by unfold heldN; rw [if_neg (by omega), if_neg (by omega)]
    rw [hh, Int.toNat_of_nonneg (by omega)]
    clear hh
    have h1 : (if width < 1 then 1 else width) = width := if_neg (by omega)
    have h2 : ¬ 4 < width := by omega
    go_enter Try.func18, Try.ntmps18
    go_wp2_with (go_at_call 36; refine (make_some _ _ _ _ _ _ _).mono ?_; rintro e w2 ⟨rfl, hb⟩; have hcells := bcell hb)
    have hz := hb.size
    simp at hz
    refine bodyPost_ret (by simp [results, Try.results18, go_sem, hcells, World.cell?_setCell_other]) rfl ⟨rfl, ?_, ?_, ?_⟩
    · rw [World.cell?_setCell_other _ _ _ _ (by simp), World.cell?_setCell_other _ _ _ _ (by simp), hcells.1 _ _ (by simp; omega)]
      simp [go_sem]
    · simp [World.setCell]; omega
    · exact (((((Below.refl _ _).alloc (Nat.le_refl _) _).alloc (by simp) _).trans (hb.mono (by simp; omega))).setCell (by simp) _).setCell (by simp) _
  · have hh : heldN width = 4 := by unfold heldN; rw [if_neg (by omega), if_pos h]
    rw [hh]
    clear hh
    have h1 : (if width < 1 then 1 else width) = width := if_neg (by omega)
    go_enter Try.func18, Try.ntmps18
    go_wp2_with (go_at_call 36; refine (make_some _ _ _ _ _ _ _).mono ?_; rintro e w2 ⟨rfl, hb⟩; have hcells := bcell hb)
    have hz := hb.size
    simp at hz
    refine bodyPost_ret (by simp [results, Try.results18, go_sem, hcells, World.cell?_setCell_other]) rfl ⟨rfl, ?_, ?_, ?_⟩
    · rw [World.cell?_setCell_other _ _ _ _ (by simp), World.cell?_setCell_other _ _ _ _ (by simp), hcells.1 _ _ (by simp; omega)]
      simp [go_sem]
    · simp [World.setCell]; omega
    · exact (((((Below.refl _ _).alloc (Nat.le_refl _) _).alloc (by simp) _).trans (hb.mono (by simp; omega))).setCell (by simp) _).setCell (by simp) _

theorem enters27 : Enters 70 := fun _ _ => by kernel_rfl
theorem enters29 : Enters 72 := fun _ _ => by kernel_rfl

theorem num_codec (width : Int) (w : World) :
    Calls Try.prog 18 #[.int .i64 width] w fun e w' => ∃ v, e = .returned v ∧ CodecOk w' v (putN (heldN width)) (nextN (heldN width)) ∧ Below w.heap.size w w' := by
  have hh := heldN_bd width
  refine (num_any width w).mono fun e w' h => ?_
  obtain ⟨rfl, hc, hz, hb⟩ := h
  refine ⟨_, rfl, ⟨_, _, rfl, ⟨70, #[], #[.pointer (some ⟨w.heap.size, 0, none⟩)], rfl, enters27, fun x w1 h1 => ?_⟩, ⟨72, #[], #[.pointer (some ⟨w.heap.size, 0, none⟩)], rfl, enters29, fun s a w1 hs ha h1 => ?_⟩⟩, hb⟩
  · exact num1_any _ _ x w1 hh.1 hh.2 ((h1.cell (p := ⟨w.heap.size, 0, none⟩) hz).trans hc)
  · exact num2_any _ _ s a w1 hh.1 hh.2 ha hs ((h1.cell (p := ⟨w.heap.size, 0, none⟩) hz).trans hc)
end Go.Proofs.Ytcbjekdbkhibbaa
