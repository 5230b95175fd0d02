/- The contracts of termCodec and its two functions (layer 2, card): what it answers writes and reads terms. -/
import Derived.Test.YtekbdbcomfleeaaPb
namespace Go.Proofs.Ytekbdbcomfleeaa
open Go.RowKit Go.Lib

set_option maxRecDepth 100000 in
set_option maxHeartbeats 800000 in
theorem tput_any (t : TermL) (w : World) : Calls Try.prog 62 #[tval t] w fun e w' => e = ret2 (tput t) ∧ Below w.heap.size w w' := by
  unfold tval tput termL
  have hl := fun W => putBytes_any [t.op, t.n, t.on] W 0 3
  have HL := Lib.hid hl
  clear hl
  go_enter Try.func62, Try.ntmps62
  go_wp2_with fail
  refine (HL.out _ _ (by simp) (by simp) (fun i hi => ?_)).mono ?_
  · have h : i = 0 ∨ i = 1 ∨ i = 2 := by simp at hi; omega
    rcases h with rfl | rfl | rfl <;> simp [go_sem]
  rintro e w2 ⟨rfl, hb2⟩
  unfold ret2
  go_wp2
  go_ret2
  exact ⟨rfl, (below_alloc2 ((Below.refl _ _).alloc (Nat.le_refl _) _) _).trans (hb2.mono (by simp; omega))⟩

def rdTerm (s : ByteArray) (a : Nat) : TermL := ⟨byteAt s a, byteAt s (a + 1), byteAt s (a + 2)⟩

set_option maxRecDepth 100000 in
set_option maxHeartbeats 1600000 in
theorem tnext_any (s : ByteArray) (a : Nat) (w : World) (hs : s.size ≤ maxLen) (ha : a ≤ s.size) :
    Calls Try.prog 64 #[.string s, .int .i64 a] w (Post_t w (rdTerm s a) ((a : Int) + 3) (shortE s a 3)) := by
  have HS := Lib.hid hs
  clear hs
  go_enter Try.func64, Try.ntmps64
  go_wp2_with fail
  have h0 : RowOf ((w.alloc (.cells #[.int .i64 0, .int .i64 0, .int .i64 0] 43)).alloc (.cells #[.int .i64 0, .int .i64 0, .int .i64 0] 92)) (w.heap.size + 1) 3 (fun _ => 0) := by
    have h := RowOf.made (w.alloc (.cells #[.int .i64 0, .int .i64 0, .int .i64 0] 43)) 3 #[.int .i64 0, .int .i64 0, .int .i64 0] 92 (fun j hj => by
      have h : j = 0 ∨ j = 1 ∨ j = 2 := by omega
      rcases h with rfl | rfl | rfl <;> rfl)
    rw [show (w.alloc (.cells #[.int .i64 0, .int .i64 0, .int .i64 0] 43)).heap.size = w.heap.size + 1 by simp] at h
    exact h
  refine (nextBytes_any (w.heap.size + 1) 3 3 (fun _ => 0) s a _ (by omega) HS.out ha h0).mono ?_
  rintro e w2 ⟨xs, m, rfl, hb2, hrow, hx⟩
  have c0 := hrow.cell 0 (by omega)
  have c1 := hrow.cell 1 (by omega)
  have c2 := hrow.cell 2 (by omega)
  have HX := Lib.hid hx
  have HB := Lib.hid (((Below.refl _ _).alloc (Nat.le_refl _) _ |>.alloc (by simp) _).trans (hb2.mono (Nat.le_succ w.heap.size)) : Below w.heap.size w w2)
  have d0 : w2.cell? ⟨w.heap.size, 0, none⟩ = some (.int .i64 0) := (hb2.cell (p := ⟨w.heap.size, 0, none⟩) (by simp)).trans (by simp [go_sem])
  have d1 : w2.cell? ⟨w.heap.size, 1, none⟩ = some (.int .i64 0) := (hb2.cell (p := ⟨w.heap.size, 1, none⟩) (by simp)).trans (by simp [go_sem])
  have d2 : w2.cell? ⟨w.heap.size, 2, none⟩ = some (.int .i64 0) := (hb2.cell (p := ⟨w.heap.size, 2, none⟩) (by simp)).trans (by simp [go_sem])
  have f0 : w2.frozen? ⟨w.heap.size, 0, none⟩ = false := (hb2.frozen (p := ⟨w.heap.size, 0, none⟩) (by simp)).trans (by simp [go_sem])
  have f1 : w2.frozen? ⟨w.heap.size, 1, none⟩ = false := (hb2.frozen (p := ⟨w.heap.size, 1, none⟩) (by simp)).trans (by simp [go_sem])
  have f2 : w2.frozen? ⟨w.heap.size, 2, none⟩ = false := (hb2.frozen (p := ⟨w.heap.size, 2, none⟩) (by simp)).trans (by simp [go_sem])
  clear hx hb2 hrow h0
  go_wp2
  refine bodyPost_ret (v := .tuple #[Val_t (xs 0) (xs 1) (xs 2), .int .i64 m, .int .i64 (shortE s a 3)]) (by simp [Val_t, results, Try.results64, go_sem, d0, d1, d2, World.cell?_setCell_other]) rfl
    ⟨xs 0, xs 1, xs 2, m, rfl, fun h => ⟨(HX.out h).1, (HX.out h).2 0 (by omega), (HX.out h).2 1 (by omega), (HX.out h).2 2 (by omega)⟩, ?_⟩
  exact ((HB.out.setCell (Nat.le_refl _) _).setCell (Nat.le_refl _) _).setCell (Nat.le_refl _) _

set_option maxRecDepth 100000 in
set_option maxHeartbeats 800000 in
theorem make_t (f0 : Fn) (fi0 ca0 : Array Value) (f1 : Fn) (fi1 ca1 : Array Value) (w : World) :
    Calls Try.prog 61 #[.func f0 fi0 ca0, .func f1 fi1 ca1] w fun e w' => e = .returned (.agg #[.func f0 fi0 ca0, .func f1 fi1 ca1]) ∧ Below w.heap.size w w' := by
  have e1 := @eg_func
  have e2 := @eqp_t
  have e3 := @eqn_t
  go_enter Try.func61, Try.ntmps61
  go_wp2
  exact bodyPost_ret (by simp [results, Try.results61, go_sem]) rfl ⟨rfl, (Below.refl _ _).alloc (Nat.le_refl _) _⟩

def tAgg : Value := .agg #[.func (.func 62) #[] #[], .func (.func 64) #[] #[]]
set_option maxRecDepth 100000 in
set_option maxHeartbeats 800000 in
theorem termCodec_any (w : World) : Calls Try.prog 27 #[] w fun e w' => e = .returned tAgg ∧ Below w.heap.size w w' := by
  unfold tAgg
  go_enter Try.func27, Try.ntmps27
  go_wp2_with fail
  refine (make_t _ _ _ _ _ _ _).mono ?_
  rintro e w2 ⟨rfl, hb2⟩
  have HB := Lib.hid ((below_alloc1 w (.cells #[.nilFunc, .nilFunc] 67)).trans (hb2.mono (by simp)))
  have d0 : w2.cell? ⟨w.heap.size, 0, none⟩ = some .nilFunc := (hb2.cell (p := ⟨w.heap.size, 0, none⟩) (by simp)).trans (by simp [go_sem])
  have d1 : w2.cell? ⟨w.heap.size, 1, none⟩ = some .nilFunc := (hb2.cell (p := ⟨w.heap.size, 1, none⟩) (by simp)).trans (by simp [go_sem])
  have f0 : w2.frozen? ⟨w.heap.size, 0, none⟩ = false := (hb2.frozen (p := ⟨w.heap.size, 0, none⟩) (by simp)).trans (by simp [go_sem])
  have f1 : w2.frozen? ⟨w.heap.size, 1, none⟩ = false := (hb2.frozen (p := ⟨w.heap.size, 1, none⟩) (by simp)).trans (by simp [go_sem])
  clear hb2
  go_wp2
  exact bodyPost_ret (by simp [results, Try.results27, go_sem, d0, d1, World.cell?_setCell_other]) rfl ⟨rfl, (HB.out.setCell (Nat.le_refl _) _).setCell (Nat.le_refl _) _⟩

theorem enters_tp : Enters 62 := fun _ _ => by kernel_rfl
theorem enters_tn : Enters 64 := fun _ _ => by kernel_rfl

/-- Put of the codec of terms. -/
theorem put_t (t : TermL) (w : World) : Calls Try.prog 80 #[tAgg, tval t] w fun e w' => e = ret2 (nrm2 (tput t)) ∧ Below w.heap.size w w' :=
  putc_t 62 enters_tp #[] #[] _ t.op t.n t.on (tput t).1 (tput t).2 w fun w1 _ => tput_any t w1

/-- What Next of the codec of terms answers at any place. -/
def tnextAt (s : ByteArray) (a : Int) : TermL × Int × Int :=
  if 0 ≤ a ∧ a ≤ s.size then (if shortE s a.toNat 3 = 0 then (rdTerm s a.toNat, a + 3, 0) else (zeroT, a, 3)) else (zeroT, a, 1)
theorem shortE_or (s : ByteArray) (a n : Nat) : shortE s a n = 0 ∨ shortE s a n = 3 := by unfold shortE; split <;> simp
theorem next_t (s : ByteArray) (a : Int) (w : World) (hs : s.size ≤ maxLen) :
    Calls Try.prog 81 #[tAgg, .string s, .int .i64 a] w (Ret_t w (tnextAt s a).1 (tnextAt s a).2.1 (tnextAt s a).2.2) := by
  unfold tnextAt
  by_cases ha : 0 ≤ a ∧ a ≤ s.size
  · rw [if_pos ha]
    obtain ⟨n, rfl⟩ := Int.eq_ofNat_of_zero_le ha.1
    have hn : n ≤ s.size := by omega
    rw [Int.toNat_natCast]
    rcases shortE_or s n 3 with h | h
    · rw [if_pos h]
      exact nexty_t 64 enters_tn #[] #[] _ _ _ s n (rdTerm s n) _ w hn hs fun w1 _ => by have := tnext_any s n w1 hs hn; rw [h] at this; exact this
    · rw [if_neg (by omega)]
      exact nextn_t 64 enters_tn #[] #[] _ _ _ s n (rdTerm s n) _ 3 (by decide) w hn hs fun w1 _ => by have := tnext_any s n w1 hs hn; rw [h] at this; exact this
  · rw [if_neg ha]
    exact nextb_t _ _ _ _ s a w (by omega) hs
end Go.Proofs.Ytekbdbcomfleeaa
