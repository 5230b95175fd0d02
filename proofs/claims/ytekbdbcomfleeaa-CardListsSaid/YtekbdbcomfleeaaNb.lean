/- The contract of nextBytes (layer 2, card): it fills a row that the caller made with the numbers at a place, or tells that there are too few bytes. -/
import Derived.Test.YtekbdbcomfleeaaL
import Derived.Test.YtekbdbcomfleeaaCd
namespace Go.Proofs.Ytekbdbcomfleeaa
open Go.RowKit

theorem codec_shape {W : World} {v : Value} {g : Int → ByteArray × Int} {h : ByteArray → Nat → Int × Int × Int} (hc : CodecOk W v g h) : ∃ k f c k' f' c', v = .agg #[.func (.func k) f c, .func (.func k') f' c'] := by
  obtain ⟨pv, nv, rfl, ⟨k, f, c, rfl, _⟩, ⟨k', f', c', rfl, _⟩⟩ := hc
  exact ⟨k, f, c, k', f', c', rfl⟩
def HasC (w : World) (b : Nat) (v0 v1 : Value) : Prop := w.cell? ⟨b, 0, none⟩ = some v0 ∧ w.cell? ⟨b, 1, none⟩ = some v1
theorem HasC.later {w w' : World} {b : Nat} {v0 v1 : Value} (h : HasC w b v0 v1) (hb : Below w.heap.size w w') : HasC w' b v0 v1 := ⟨cell_stays hb h.1, cell_stays hb h.2⟩
theorem HasC.new (w : World) (v0 v1 : Value) (t : TypeId) : HasC (w.alloc (.cells #[v0, v1] t)) w.heap.size v0 v1 := ⟨by simp [go_sem], by simp [go_sem]⟩
theorem HasC.far {w : World} {b : Nat} {v0 v1 : Value} (h : HasC w b v0 v1) {p : Addr} (hp : p.block ≠ b) (u : Value) : HasC (w.setCell p u) b v0 v1 :=
  ⟨by rw [World.cell?_setCell_other _ _ _ _ (fun e => hp (by rw [e]))]; exact h.1, by rw [World.cell?_setCell_other _ _ _ _ (fun e => hp (by rw [e]))]; exact h.2⟩
theorem below_alloc1 (w : World) (o : Obj) : Below w.heap.size w (w.alloc o) := (Below.refl _ _).alloc (Nat.le_refl _) _

/-- A row of numbers in a block that may be written. -/
def RowOf (w : World) (b n : Nat) (xs : Nat → Int) : Prop :=
  ∃ (C : Array Value) (T : TypeId), w.heap[b]? = some (.cells C T (0, 0)) ∧ ∀ j, j < n → C[j]? = some (.int .i64 (xs j))
theorem RowOf.cell {w : World} {b n : Nat} {xs : Nat → Int} (h : RowOf w b n xs) (j : Nat) (hj : j < n) : w.cell? ⟨b, j, none⟩ = some (.int .i64 (xs j)) := by
  obtain ⟨C, T, hC, hc⟩ := h
  simp [World.cell?, hC, hc j hj]
theorem RowOf.frozen {w : World} {b n : Nat} {xs : Nat → Int} (h : RowOf w b n xs) (j : Nat) : w.frozen? ⟨b, j, none⟩ = false := by
  obtain ⟨C, T, hC, hc⟩ := h
  simp [World.frozen?, hC]
theorem RowOf.lt {w : World} {b n : Nat} {xs : Nat → Int} (h : RowOf w b n xs) : b < w.heap.size := by
  obtain ⟨C, T, hC, hc⟩ := h
  exact lt_of_row hC
theorem RowOf.later {w w' : World} {b n : Nat} {xs : Nat → Int} (h : RowOf w b n xs) (hb : Below w.heap.size w w') : RowOf w' b n xs := by
  obtain ⟨C, T, hC, hc⟩ := h
  exact ⟨C, T, (hb.block b (lt_of_row hC)).trans hC, hc⟩
theorem RowOf.put {w : World} {b n : Nat} {xs : Nat → Int} (h : RowOf w b n xs) (k : Nat) (x : Int) : RowOf (w.setCell ⟨b, k, none⟩ (.int .i64 x)) b n (fun j => if j = k then x else xs j) := by
  obtain ⟨C, T, hC, hc⟩ := h
  refine ⟨C.setIfInBounds k (.int .i64 x), T, by simp [World.setCell, Array.getElem?_modify, hC], fun j hj => ?_⟩
  rw [Array.getElem?_setIfInBounds]
  by_cases e : k = j
  · subst e
    rw [if_pos rfl, if_pos (Array.getElem?_eq_some_iff.1 (hc k hj)).1]
    simp
  · rw [if_neg e, hc j hj]
    simp [Ne.symm e]
theorem RowOf.made (w : World) (n : Nat) (C : Array Value) (T : TypeId) (h : ∀ j, j < n → C[j]? = some (.int .i64 0)) : RowOf (w.alloc (.cells C T)) w.heap.size n (fun _ => 0) :=
  ⟨C, T, heap_alloc_new w _, h⟩

def shortE (s : ByteArray) (a n : Nat) : Int := if s.size < a + n then 3 else 0
def RetRow (w : World) (b n : Nat) (s : ByteArray) (a : Nat) (e : Ending) (w' : World) : Prop :=
  ∃ (xs : Nat → Int) (m : Int), e = .returned (.tuple #[.int .i64 m, .int .i64 (shortE s a n)]) ∧ Below b w w' ∧ RowOf w' b n xs ∧ (shortE s a n = 0 → m = a + n ∧ ∀ j, j < n → xs j = byteAt s (a + j))

theorem next1_yes (s : ByteArray) (a : Nat) (h : a < s.size) : nextAt (nextN 1) s a = (byteAt s a, (a : Int) + 1, 0) := by
  have h1 : (0 : Int) ≤ a ∧ (a : Int) ≤ s.size := ⟨by omega, by omega⟩
  have h2 : ¬ s.size < a + 1 := by omega
  unfold nextAt
  rw [if_pos h1]
  unfold nextN nrm3
  simp [h2, readN]
theorem next1_no (s : ByteArray) (a : Nat) (h : s.size = a) : nextAt (nextN 1) s a = (0, (a : Int), 3) := by
  have h1 : (0 : Int) ≤ a ∧ (a : Int) ≤ s.size := ⟨by omega, by omega⟩
  have h2 : s.size < a + 1 := by omega
  unfold nextAt
  rw [if_pos h1]
  unfold nextN nrm3
  simp [h2]

def numAgg (p : Nat) : Value := .agg #[.func (.func 90) #[] #[.pointer (some ⟨p, 0, none⟩)], .func (.func 92) #[] #[.pointer (some ⟨p, 0, none⟩)]]
theorem num_is {w : World} {p n : Nat} (h1 : 1 ≤ n) (h4 : n ≤ 4) (hc : w.cell? ⟨p, 0, none⟩ = some (.int .i64 n)) : CodecOk w (numAgg p) (putN n) (nextN n) :=
  ⟨_, _, rfl, ⟨90, #[], #[.pointer (some ⟨p, 0, none⟩)], rfl, enters27, fun x w1 h => num1_any _ _ x w1 h1 h4 (cell_stays h hc)⟩,
    ⟨92, #[], #[.pointer (some ⟨p, 0, none⟩)], rfl, enters29, fun s a w1 hs ha h => num2_any _ _ s a w1 h1 h4 ha hs (cell_stays h hc)⟩⟩
theorem cell_other {w : World} {b k p j : Nat} {u v : Value} (hp : b ≠ p) (h : w.cell? ⟨p, j, none⟩ = some v) : (w.setCell ⟨b, k, none⟩ u).cell? ⟨p, j, none⟩ = some v := by
  rw [World.cell?_setCell_other _ _ _ _ (fun e => hp (by injection e))]; exact h

set_option maxRecDepth 100000 in
set_option maxHeartbeats 1600000 in
theorem nextBytes_any (b n cap : Nat) (xs0 : Nat → Int) (s : ByteArray) (a : Nat) (w : World) (hn : n ≤ 9) (hs : s.size ≤ maxLen) (ha : a ≤ s.size) (hr : RowOf w b n xs0) :
    Calls Try.prog 65 #[.slice (some ⟨b, 0, none⟩) n cap, .string s, .int .i64 a] w (RetRow w b n s a) := by
  have hbw := hr.lt
  have HS := Lib.hid hs
  have hlen := hs
  unfold maxLen at hlen
  have HR0 := Lib.hid hr
  clear hr hs
  go_enter Try.func65, Try.ntmps65
  go_wp2_with fail
  refine (num_any 1 _).mono ?_
  rintro e w1 ⟨rfl, hcell, hsz, hb1⟩
  have HB1 := Lib.hid hb1
  have HR1 := Lib.hid (HR0.out.later hb1)
  have HN1 := Lib.hid hcell
  clear hcell hb1
  go_wp2
  go_loopw [2, 16] (fun at_ i wr => ∃ (k : Nat) (xs : Nat → Int), k ≤ n ∧ i = .int .i64 k ∧ at_ = .int .i64 ((a : Int) + k) ∧ Hid (a + k ≤ s.size) ∧ Hid (RowOf wr b n xs) ∧ Hid (∀ j, j < k → xs j = byteAt s (a + j)) ∧
      Hid (Below b w wr) ∧ Hid (wr.cell? ⟨w.heap.size, 0, none⟩ = some (.int .i64 (heldN 1))) ∧ Hid (HasC wr w1.heap.size (.func (.func 90) #[] #[.pointer (some ⟨w.heap.size, 0, none⟩)]) (.func (.func 92) #[] #[.pointer (some ⟨w.heap.size, 0, none⟩)])) ∧ w1.heap.size < wr.heap.size) (fun _ i _ => n - (RowKit.intOf i).toNat)
  case atStart => exact ⟨0, xs0, Nat.zero_le _, rfl, by simp, Lib.hid ha, Lib.hid (HR1.out.later (below_alloc1 _ _)), Lib.hid (fun j hj => by omega), Lib.hid ((HB1.out.mono (by omega)).alloc (by omega) _), Lib.hid (cell_stays (below_alloc1 _ _) HN1.out), Lib.hid (HasC.new _ _ _ _), by simp⟩
  case round =>
    obtain ⟨k, xs, hk, rfl, rfl, HA, HR, HX, HB, HNk, HHk, hszr⟩ := hrel
    have c0 := HHk.out.1
    have c1 := HHk.out.2
    have hak := HA.out
    by_cases hkn : k < n
    · go_wp2_with fail
      refine (next_codec (num_is (by decide) (by decide) HNk.out) (Below.refl _ _) s _ HS.out).mono ?_
      rw [show heldN 1 = 1 from rfl]
      have hfr := HR.out.frozen k
      by_cases hsh : a + k < s.size
      · have HN : Hid (nextAt (nextN 1) s ((a : Int) + k) = (byteAt s (a + k), ((a + k : Nat) : Int) + 1, 0)) := Lib.hid (next1_yes s (a + k) hsh)
        rw [HN.out]
        rintro e w4 ⟨rfl, hb4⟩
        unfold ret3
        have HR4 := Lib.hid (HR.out.later hb4)
        have HH4 := Lib.hid (HHk.out.later hb4)
        have HN4 := Lib.hid (cell_stays hb4 HNk.out)
        have HB4 := Lib.hid (HB.out.trans (hb4.mono (by omega)))
        have hsz4 := hb4.size
        have ck := HR4.out.cell k hkn
        have fk := HR4.out.frozen k
        clear hb4 c0 c1 hfr
        go_wp2
        go_roundw
        case rel =>
          refine ⟨k + 1, _, by omega, by go_num, congrArg (Value.int .i64) (by omega), Lib.hid (by omega), Lib.hid (HR4.out.put k (byteAt s (a + k))), Lib.hid (fun j hj => ?_), Lib.hid (HB4.out.setCell (Nat.le_refl _) _), Lib.hid (cell_other (by omega) HN4.out), Lib.hid (HH4.out.far (by dsimp only; omega) _), by simp [World.setCell]; omega⟩
          by_cases e : j = k
          · subst e; simp
          · simp [e]; exact HX.out j (by omega)
        case measure => simp [RowKit.intOf]; omega
      · have HN : Hid (nextAt (nextN 1) s ((a : Int) + k) = (0, ((a + k : Nat) : Int), 3)) := Lib.hid (next1_no s (a + k) (by omega))
        rw [HN.out]
        rintro e w4 ⟨rfl, hb4⟩
        unfold ret3
        have HR4 := Lib.hid (HR.out.later hb4)
        have HB4 := Lib.hid (HB.out.trans (hb4.mono (by omega)))
        have HE : Hid (shortE s a n = 3) := Lib.hid (by unfold shortE; rw [if_pos (by omega)])
        clear hb4 c0 c1 hfr
        go_wp2
        go_ret2
        exact ⟨xs, (a : Int) + k, by rw [HE.out]; rfl, HB4.out, HR4.out, fun h => by rw [HE.out] at h; omega⟩
    · obtain rfl : k = n := by omega
      have HE : Hid (shortE s a k = 0) := Lib.hid (by unfold shortE; rw [if_neg (by omega)])
      go_wp2
      go_ret2
      exact ⟨xs, (a : Int) + k, by rw [HE.out]; rfl, HB.out, HR.out, fun _ => ⟨rfl, HX.out⟩⟩
end Go.Proofs.Ytekbdbcomfleeaa
